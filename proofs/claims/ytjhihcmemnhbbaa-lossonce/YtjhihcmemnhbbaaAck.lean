/-
  What an acknowledgement makes of all packets, as plain mathematics, and the test that Ack hands to take: a contract.
-/
import Derived.Test.YtjhihcmemnhbbaaRg
import Derived.Test.YtjhihcmemnhbbaaFir
import Derived.Deep.RegionHeld3
import Derived.Deep.RegionWith
namespace Go.Proofs.Ytjhihcmemnhbbaa
open Go.RowKit
set_option linter.unusedVariables false
set_option maxRecDepth 20000

def lastTo (l : List Spn) : Int := gs l
def ackBad (S : Lo) (k : Nat) (l : List Spn) : Bool := !rgt l || !inS (S.sp k).sent (lastTo l)
def ackE (S : Lo) (k : Int) (l : List Spn) (delay now : Int) : Int :=
  if chE S k now ≠ 0 then chE S k now else if ackBad S k.toNat l = true then 111 else if delay < 0 ∨ 4611686018427387903 < delay then 30 else 0
def arrL (S : Lo) (k : Nat) (l : List Spn) : List Pk := (S.sp k).out.filter (fun p => inS l p.n)
def arrR (S : Lo) (k : Nat) (l : List Spn) : List Pk := (S.sp k).out.filter (fun p => !inS l p.n)
def lastP (l : List Pk) : Pk := l.getD (l.length - 1) noPk
def ack1 (S : Lo) (k : Nat) (l : List Spn) (now : Int) : Lo := ({ S with now := now } : Lo).put k { S.sp k with out := arrR S k l }
def ackC (S : Lo) (k : Nat) (l : List Spn) : Bool := ((lastP (arrL S k l)).n == lastTo l) && elic (arrL S k l)
def ack2 (S : Lo) (k : Nat) (l : List Spn) (delay now : Int) : Lo := if ackC S k l = true then smpS (ack1 S k l now) (now - (lastP (arrL S k l)).a) (cutM (ack1 S k l now) k delay) else ack1 S k l now
def ack3 (S : Lo) (k : Nat) (l : List Spn) (delay now : Int) : Lo := grw (ack2 S k l delay now) (arrL S k l)
def ack4 (S : Lo) (k : Nat) (l : List Spn) (delay now : Int) : Lo := { ack3 S k l delay now with prb := 0 }
def ack5 (S : Lo) (k : Nat) (l : List Spn) (delay now : Int) : Lo := (ack4 S k l delay now).put k { (ack4 S k l delay now).sp k with ack := max ((ack4 S k l delay now).sp k).ack (lastP (arrL S k l)).n }
/-- What is acked, what is lost, what is known behind it. -/
def ackA (S : Lo) (k : Int) (l : List Spn) (delay now : Int) : List Pk := if ackE S k l delay now = 0 then arrL S k.toNat l else []
def ackL (S : Lo) (k : Int) (l : List Spn) (delay now : Int) : List Pk := if ackE S k l delay now = 0 ∧ arrL S k.toNat l ≠ [] then fndL (ack5 S k.toNat l delay now) k.toNat now else []
def ackS (S : Lo) (k : Int) (l : List Spn) (delay now : Int) : Lo := if ackE S k l delay now = 0 then (if arrL S k.toNat l = [] then { S with now := now } else fndS (ack5 S k.toNat l delay now) k.toNat now) else S

theorem ackf_any {u : World} {x1 m c : Nat} {a : Option Addr} {l : List Spn} (p : Pk) (c1 : u.cell? ⟨x1, 0, none⟩ = some (.slice a m c)) (ht : SegS u a l) (hl : l.length = m) (hs : Srt l) (hm : m ≤ 4611686018427387904) :
    Calls Try.prog 28 #[.agg #[.int .i64 p.n, .int .i64 p.s, .int .i64 p.a, .bool p.e], .pointer (some ⟨x1, 0, none⟩)] u fun e u' => e = .returned (.bool (inS l p.n)) ∧ Q u u' := by
  have hq : Q u (u.alloc (.cells #[.int .i64 p.n, .int .i64 p.s, .int .i64 p.a, .bool p.e] 73)) := (Q.refl u).alloc _
  have k1 := (hq.cell (p := ⟨x1, 0, none⟩) (lt_of_cell c1)).trans c1
  have A := hid (holds_any (c := c) (ht.q hq) hl hs hm p.n)
  clear ht hl hs hm c1
  go_enter Try.func28, Try.ntmps28
  go_wp2_with fail
  refine A.out.mono ?_
  rintro e w1 ⟨rfl, q1⟩
  have Q1 := hid (hq.trans q1)
  clear q1
  go_wp2
  go_ret
  exact ⟨rfl, Q1.out⟩
theorem dcel {W : World} {p : Addr} {v : Value} (h : W.cell? p = some v) : W.drew.cell? p = some v := h
theorem seg_last {w : World} {a : Option Addr} {l : List Spn} (h : SegS w a l) (h0 : 0 < l.length) : ∃ g o, a = some ⟨g, o, none⟩ ∧ w.cell? ⟨g, o + (l.length - 1) * 2 + 1, none⟩ = some (.int .i64 (lastTo l)) := by
  obtain ⟨g, o, ha, hc⟩ := h (by intro e; rw [e] at h0; simp at h0)
  refine ⟨g, o, ha, ?_⟩
  rw [(hc (l.length - 1) (by omega)).c1]
  unfold lastTo
  rw [gs_last h0]

def AckAns (w : World) (rb : Nat) (r : Nat → Sv) (S' : Lo) (A L : List Pk) (E : Int) (e : Ending) (w' : World) : Prop :=
  ∃ x y r', e = .returned (.tuple #[.slice x.a x.n x.c, .slice y.a y.n y.c, .int .i64 E]) ∧ RowI w' x (A.map (·.n)) ∧ RowI w' y (L.map (·.n)) ∧ Wr w w' rb r r' S' ∧ (∀ b, blk x.a = some b → w.heap.size ≤ b ∧ ¬ Fp rb r' b) ∧ ∀ b, blk y.a = some b → w.heap.size ≤ b ∧ ¬ Fp rb r' b
theorem ans_nil {w w' : World} {rb : Nat} {r : Nat → Sv} {S' : Lo} {A L : List Pk} {E E' : Int} (W : Wr w w' rb r r S') (hA : A = []) (hL : L = []) (hE : E = E') : AckAns w rb r S' A L E (.returned (.tuple #[.slice none 0 0, .slice none 0 0, .int .i64 E'])) w' := by
  subst hA hL hE
  exact ⟨nilS, nilS, r, rfl, sub_nil _ 3 1, sub_nil _ 3 1, W, fun b e => by simp [nilS, blk] at e, fun b e => by simp [nilS, blk] at e⟩

set_option maxHeartbeats 8000000 in
theorem ack_ok {N : Nat} {w : World} {rb : Nat} {r : Nat → Sv} {S : Lo} (h : La w rb r S) {k : Nat} (hk : k < 3) {a : Option Addr} {m c : Nat} {l : List Spn} (ht : SegS w a l) (hl : l.length = m) (hO : Ok N S) (hN : N ≤ 4398046511103) (hm : m ≤ 4611686018427387904) (delay now : Int) (hc : chE S k now = 0) (hfar : ∀ b, blk a = some b → ¬ Fp rb r b) (OK1 : rgt l = true → Ok N (ack1 S k l now)) (OK5 : 0 ≤ delay → ackBad S k l = false → arrL S k l ≠ [] → Ok N (ack5 S k l delay now)) (GW : 0 ≤ delay → arrL S k l ≠ [] → 2400 ≤ (ack2 S k l delay now).win ∧ (ack2 S k l delay now).win ≤ 300000000000000000) (n0 : 0 ≤ now) (n1 : now ≤ 1099511627776) :
    Calls Try.prog 14 #[.pointer (some ⟨rb, 0, none⟩), .int .i64 (k : Int), .slice a m c, .int .i64 delay, .int .i64 now] w fun e w' => AckAns w rb r (ackS S k l delay now) (ackA S k l delay now) (ackL S k l delay now) (ackE S k l delay now) e w' := by
  obtain ⟨w0, hw0⟩ : ∃ w0, w0 = w.alloc (.cells #[.slice a m c] 38) := ⟨_, rfl⟩
  have q0 : Q w w0 := by rw [hw0]; exact (Q.refl w).alloc _
  have B1 : OneC w0 w.heap.size 38 (.slice a m c) := by rw [hw0]; exact heap_alloc_new w _
  have A := hid (check_any (h.q q0) k now)
  rw [hc] at A
  rw [hw0] at A
  have hk3 : (k : Int) < 3 := by omega
  have HW0 := hid hw0.symm
  have HL0 := hid (h.q q0)
  have T0 := hid (ht.q q0)
  have HB1 := hid B1
  have RS := hid (fun (u : World) (q : Q w0 u) => rightSpans_any (c := c) ((ht.q q0).q q) hl)
  have HS := hid (fun (u : World) (q : Q w0 u) => holds_any (c := (r (2 * k + 1)).c) (RowS.seg (((h.q q0).q q).rs.t k hk)) ((((h.q q0).q q).rs.t k hk).len) (hO.sp k hk).srt (by have := (hO.sp k hk).many; have := (((h.q q0).q q).rs.t k hk).len; omega) (lastTo l))
  have HLL := hid hl
  have HKK := hid hk
  have HC := hid hc
  have HF := hid hfar
  have HO := hid hO
  have HNN := hid hN
  have OK1 := hid OK1
  have OK5 := hid OK5
  have GW := hid GW
  have N0 := hid n0
  have N1 := hid n1
  have HW := hid h
  have Q00 := hid q0
  have HMM := hid hm
  have SZ0 := hid (show w0.heap.size = w.heap.size + 1 from by rw [hw0]; simp)
  have EE := hid (show ackE S k l delay now = if ackBad S k l = true then 111 else if delay < 0 ∨ 4611686018427387903 < delay then 30 else 0 by unfold ackE; rw [if_neg (by simp [hc])]; simp)
  clear h ht hl hO hN hc q0 B1 hw0 hfar n0 n1 hm
  go_enter Try.func14, Try.ntmps14
  go_wp2_with fail
  refine A.out.mono ?_
  rintro e w1 ⟨rfl, rfl⟩
  go_upto_region 5 with fail
  rw [HW0.out]
  go_cut [46] from 17 (fun v wc => v = .bool (ackBad S k l) ∧ Q w0 wc)
  case first =>
    have b0 := HB1.out.cell
    cases hr : rgt l
    · have HR := hid (show ackBad S k l = true by unfold ackBad; rw [hr]; rfl)
      rw [hr] at RS
      have HRR := hid HR.out
      generalize hRg : Code.region 5 _ true = Cc
      have eR : Cc = Code.region 5 (RofN Try.f14 5) true := hRg.symm.trans (by kernel_rfl)
      clear hRg
      subst eR
      refine rg5f rb (2 + k * 5) w.heap.size m c a w0 _ b0 (fun u hu => (RS.out u hu).mono fun e u' h => ⟨h.1, Q.trans hu h.2⟩) ?_
      intro wX hX
      have HX := hid hX
      clear hX
      go_wp2_with fail
      go_meet
      case rel => exact ⟨by rw [HRR.out], HX.out⟩
    · have HR := hid (show (!inS (S.sp k).sent (lastTo l)) = ackBad S k l by unfold ackBad; rw [hr]; rfl)
      rw [hr] at RS
      have hlen := rgt_srt hr
      rw [HLL.out] at hlen
      obtain ⟨g, o2, rfl, hlc⟩ := seg_last T0.out (by rw [HLL.out]; exact hlen.2.1)
      rw [HLL.out] at hlc
      obtain ⟨q, hqm⟩ : ∃ q, q = m - 1 := ⟨_, rfl⟩
      rw [← hqm] at hlc
      have hq1 : (q : Int) < (m : Int) := by omega
      have hq2 : q < m := by omega
      have hw : IntKind.i64.wrap ((m : Int) - 1) = (q : Int) := by rw [IntKind.wrap_i64]; omega
      have cs := HL0.out.hd.sent hk
      have s0 : Q w0 w0 := Q.refl _
      have hx0 := lt_of_cell b0
      have hx1 := lt_of_cell cs
      have hx2 := lt_of_cell hlc
      have HQM := hid hqm
      have HLEN := hid hlen
      clear hqm hlen hr
      go_region_held3 (fun u => Q w0 u ∧ u.cell? ⟨w.heap.size, 0, none⟩ = some (.slice (some ⟨g, o2, none⟩) m c) ∧ u.cell? ⟨rb, 2 + k * 5 + 1, none⟩ = some (.slice (r (2 * k + 1)).a (r (2 * k + 1)).n (r (2 * k + 1)).c) ∧ u.cell? ⟨g, o2 + q * 2 + 1, none⟩ = some (.int .i64 (lastTo l))) (repeat (first | (with_reducible assumption) | (with_reducible refine dcel ?_) | (with_reducible apply Q.drew) | (with_reducible apply Q.drewN) | (with_reducible apply And.intro)))
        (first
          | (go_at_call 26; refine (HS.out _ (by repeat (first | (with_reducible assumption) | (with_reducible exact Q.refl _) | (with_reducible apply Q.drew) | (with_reducible apply Q.drewN)))).mono ?_; rintro e wB ⟨rfl, qB⟩; have jB : Q w0 wB := Q.trans (by repeat (first | (with_reducible assumption) | (with_reducible exact Q.refl _) | (with_reducible apply Q.drew) | (with_reducible apply Q.drewN))) qB; have yB0 := (jB.cell (p := ⟨w.heap.size, 0, none⟩) hx0).trans b0; have yB1 := (jB.cell (p := ⟨rb, 2 + k * 5 + 1, none⟩) hx1).trans cs; have yB2 := (jB.cell (p := ⟨g, o2 + q * 2 + 1, none⟩) hx2).trans hlc)
          | (go_at_call 25; refine (RS.out _ (by repeat (first | (with_reducible assumption) | (with_reducible exact Q.refl _) | (with_reducible apply Q.drew) | (with_reducible apply Q.drewN)))).mono ?_; rintro e wA ⟨rfl, qA⟩; have jA : Q w0 wA := Q.trans (by repeat (first | (with_reducible assumption) | (with_reducible exact Q.refl _) | (with_reducible apply Q.drew) | (with_reducible apply Q.drewN))) qA; have yA0 := (jA.cell (p := ⟨w.heap.size, 0, none⟩) hx0).trans b0; have yA1 := (jA.cell (p := ⟨rb, 2 + k * 5 + 1, none⟩) hx1).trans cs; have yA2 := (jA.cell (p := ⟨g, o2 + q * 2 + 1, none⟩) hx2).trans hlc))
      all_goals
        go_wp2_with fail
        go_meet
        case rel => exact ⟨by rw [HR.out], jB⟩
  case rest =>
    obtain ⟨rfl, qc⟩ := hcut
    have QC := hid (Q00.out.trans qc)
    have LC := hid (HL0.out.q qc)
    have TC := hid (T0.out.q qc)
    have BC := hid (HB1.out.q qc)
    clear qc RS HS HL0 T0 HB1 A
    cases hbad : ackBad S k l
    · have EE2 := hid (show ackE S k l delay now = if delay < 0 ∨ 4611686018427387903 < delay then 30 else 0 by rw [EE.out, hbad]; rfl)
      by_cases hd1 : delay < 0
      · have d1 : decide (delay < 0) = true := by simp [hd1]
        have E30 := hid (show ackE S k l delay now = 30 by rw [EE2.out, if_pos (.inl hd1)])
        have NA := hid (show ackA S k l delay now = [] ∧ ackL S k l delay now = [] ∧ ackS S k l delay now = S by unfold ackA ackL ackS; rw [E30.out]; simp)
        clear hd1 hbad
        go_wp2
        go_ret3
        rw [NA.out.2.2]
        exact ans_nil (Wr.ofQ HW.out QC.out) NA.out.1 NA.out.2.1 E30.out
      · have d1 : decide (delay < 0) = false := by simp; omega
        by_cases hd2 : 4611686018427387903 < delay
        · have d2 : decide (4611686018427387903 < delay) = true := by simp [hd2]
          have E30 := hid (show ackE S k l delay now = 30 by rw [EE2.out, if_pos (.inr hd2)])
          have NA := hid (show ackA S k l delay now = [] ∧ ackL S k l delay now = [] ∧ ackS S k l delay now = S by unfold ackA ackL ackS; rw [E30.out]; simp)
          clear hd1 hd2 hbad
          go_wp2
          go_ret3
          rw [NA.out.2.2]
          exact ans_nil (Wr.ofQ HW.out QC.out) NA.out.1 NA.out.2.1 E30.out
        · have d2 : decide (4611686018427387903 < delay) = false := by simp; omega
          have E0 := hid (show ackE S k l delay now = 0 by rw [EE2.out, if_neg (by omega)])
          have DEL := hid (show 0 ≤ delay from by omega)
          have RG := hid (show rgt l = true by unfold ackBad at hbad; cases h : rgt l with | true => rfl | false => rw [h] at hbad; simp at hbad)
          have HBAD := hid hbad
          have hc1 := LC.out.hd.c1
          have hf1 := LC.out.hd.free 1
          have W1 := setNow LC.out now
          obtain ⟨w1, hw1⟩ : ∃ w1, w1 = wc.setCell ⟨rb, 1, none⟩ (.int .i64 now) := ⟨_, rfl⟩
          rw [← hw1] at W1
          have hrbw : rb < w.heap.size := HW.out.hd.lt
          have k1 : Keep (fun b => b = rb) wc w1 := by rw [hw1]; exact (Keep.refl (fun b => b = rb) wc).setCell rb 1 _ (.inl rfl)
          have hlen := rgt_srt RG.out
          rw [HLL.out] at hlen
          have blkA : ∀ b, blk a = some b → b ≠ rb := fun b e e2 => HF.out b e (.inl e2)
          have T1 := TC.out.keep k1 blkA
          have B1 := BC.out.keep k1 (by omega)
          have TK := hid (takeA_any W1.la hk (HO.out.sp k hk).few w.heap.size (fun p => inS l p.n) (fun u p _ hku =>
            ackf_any (c := c) p (B1.keep hku (fun e => by have := HW.out.rs.lt (i := 2 * k) (by omega) _ e; omega)).cell (T1.keep hku (fun b e1 e2 => HF.out b e1 (.inr ⟨2 * k, by omega, e2⟩))) HLL.out hlen.1 HMM.out))
          have WW1 := hid ((Wr.ofQ HW.out QC.out).trans W1)
          have HW1 := hid hw1.symm
          have TB1 := hid (And.intro T1 B1)
          have HLEN := hid hlen
          have SZ1 := hid (show w.heap.size + 1 ≤ w1.heap.size from by have := SZ0.out; have := k1.size; have := lt_of_block BC.out; omega)
          clear hd1 hd2 hbad k1 hlen blkA T1 B1 W1 hw1 hrbw EE EE2
          go_wp2_with fail
          rw [HW1.out]
          refine TK.out.mono ?_
          rintro e w2 ⟨t, r2, rfl, ht2, W2, hnew, hfp⟩
          have WW2 := hid (WW1.out.trans W2)
          have W12 := hid (show w1.heap.size ≤ w2.heap.size from W2.kp.size)
          have LA2 := hid (show La w2 rb r2 (ack1 S k l now) from W2.la)
          have hl2 := ht2.len
          have R2 := hid (show RowP w2 t (arrL S k l) from ht2)
          have HL2 := hid (show (arrL S k l).length = t.n from hl2)
          have NEW := hid (show ∀ b, blk t.a = some b → w1.heap.size ≤ b from hnew)
          have FP := hid hfp
          have NF := hid (show ∀ b, w.heap.size ≤ b → ¬ Fp rb r2 b from fun b hb e => by have := HW.out.lt b (hfp b e); omega)
          have T2 := hid (TB1.out.1.keep W2.kp (fun b e => HF.out b e))
          have B2 := hid (TB1.out.2.keep W2.kp (fun e => by have := HW.out.lt _ e; omega))
          have FEW := hid (show (arrL S k l).length ≤ 4096 from by have := List.length_filter_le (fun p => inS l p.n) (S.sp k).out; have := (HO.out.sp k hk).few; unfold arrL; omega)
          clear ht2 W2 hnew hfp hl2 TK TB1
          obtain ⟨ta, tn, tc⟩ := t
          by_cases hz : tn = 0
          · subst hz
            have hnil : arrL S k l = [] := List.eq_nil_of_length_eq_zero HL2.out
            have NA := hid (show ackA S k l delay now = [] ∧ ackL S k l delay now = [] ∧ ackS S k l delay now = { S with now := now } by unfold ackA ackL ackS; rw [E0.out]; simp [hnil])
            have e1 : ack1 S k l now = { S with now := now } := by
              unfold ack1
              have : arrR S k l = (S.sp k).out := by
                unfold arrR
                rw [List.filter_eq_self]
                intro p hp
                have h2 : ¬ (inS l p.n = true) := fun h3 => by
                  have : p ∈ arrL S k l := List.mem_filter.2 ⟨hp, h3⟩
                  rw [hnil] at this; cases this
                simpa using h2
              rw [this]
              show ({ S with now := now } : Lo).put k (S.sp k) = _
              unfold Lo.put
              simp only
              rw [upd_self]
            have FIN := hid (show ∃ r', Wr w w2 rb r r' { S with now := now } from ⟨r2, by rw [← e1]; exact WW2.out⟩)
            clear hnil e1
            go_wp2
            go_ret3
            rw [NA.out.2.2]
            obtain ⟨r', hWr⟩ := FIN.out
            rw [NA.out.1, NA.out.2.1, E0.out]
            exact ⟨nilS, nilS, r', rfl, sub_nil _ 3 1, sub_nil _ 3 1, hWr, fun b e => by simp [nilS, blk] at e, fun b e => by simp [nilS, blk] at e⟩
          · have hne : arrL S k l ≠ [] := by intro e; have := HL2.out; rw [e] at this; simp at this; omega
            have NA := hid (show ackA S k l delay now = arrL S k l ∧ ackL S k l delay now = fndL (ack5 S k l delay now) k now ∧ ackS S k l delay now = fndS (ack5 S k l delay now) k now by unfold ackA ackL ackS; rw [E0.out]; simp [hne])
            have HNE := hid hne
            have htn : 0 < tn := by omega
            obtain ⟨g, o2, hta, _, hs⟩ := RowP.at_ (d := ⟨ta, tn, tc⟩) R2.out (k := tn - 1) (by simp only; omega)
            simp only at hta
            subst hta
            obtain ⟨p, hp⟩ : ∃ p, p = lastP (arrL S k l) := ⟨_, rfl⟩
            have hp2 : (arrL S k l).getD (tn - 1) noPk = p := by rw [hp]; unfold lastP; rw [HL2.out]
            rw [hp2] at hs
            have hpm : p ∈ (S.sp k).out := by
              have h1 : p ∈ arrL S k l := by
                rw [← hp2, List.getD_eq_getElem?_getD, List.getElem?_eq_getElem (by have := HL2.out; simp only at this; omega)]; exact List.getElem_mem _
              exact (List.mem_filter.1 h1).1
            have POK := hid ((HO.out.sp k hk).out p hpm)
            obtain ⟨q, hqq⟩ : ∃ q, q = tn - 1 := ⟨_, rfl⟩
            rw [← hqq] at hs
            have c0 := hs.c0
            have c1 := hs.c1
            have c2 := hs.c2
            have c3 := hs.c3
            have hw : IntKind.i64.wrap ((tn : Int) - 1) = (q : Int) := by have := HL2.out; have := FEW.out; simp only at *; rw [IntKind.wrap_i64]; omega
            have hq1 : (q : Int) < (tn : Int) := by omega
            have hq2 : q < tn := by omega
            have hz' : ((tn : Int) == 0) = false := by simp; omega
            obtain ⟨w3, hw3⟩ : ∃ w3, w3 = w2.alloc (.cells #[.int .i64 p.n, .int .i64 p.s, .int .i64 p.a, .bool p.e] 73) := ⟨_, rfl⟩
            have q3 : Q w2 w3 := by rw [hw3]; exact (Q.refl w2).alloc _
            have bx3 : w3.heap[w2.heap.size]? = some (.cells #[.int .i64 p.n, .int .i64 p.s, .int .i64 p.a, .bool p.e] 73 (0, 0)) := by rw [hw3]; exact heap_alloc_new w2 _
            have BX3 := hid bx3
            have L3 := hid (LA2.out.q q3)
            have R3 := hid (show RowP w3 ⟨some ⟨g, o2, none⟩, tn, tc⟩ (arrL S k l) from R2.out.q q3)
            have T3 := hid (T2.out.q q3)
            have B3 := hid (B2.out.q q3)
            have Q3 := hid q3
            have HW3 := hid hw3.symm
            have HPL := hid hp
            have SZ2 := hid (show w.heap.size + 1 ≤ w2.heap.size from by have := SZ1.out; have := lt_of_block B2.out; have := W12.out; omega)
            clear hne htn hs hp2 hpm hqq hp hw3 q3 bx3 R2 LA2 T2 B2
            have HZ := hid hz
            clear hz
            go_upto_region 14 with fail
            rw [HW3.out]
            clear c0 c1 c2 c3
            go_cut [82] from 17 (fun v wd => v = .bool (ackC S k l) ∧ Q w3 wd)
            case first =>
              have b0 := B3.out.cell
              have p0 : w3.cell? ⟨w2.heap.size, 0, none⟩ = some (.int .i64 p.n) := by rw [cell_of_row _ _ _ _ 73 (0, 0) BX3.out]; rfl
              obtain ⟨ga, oa, rfl, hlc⟩ := seg_last T3.out (by rw [HLL.out]; exact HLEN.out.2.1)
              rw [HLL.out] at hlc
              obtain ⟨qm, hqm⟩ : ∃ qm, qm = m - 1 := ⟨_, rfl⟩
              rw [← hqm] at hlc
              have hm0 := HLEN.out.2
              have hm1 : (qm : Int) < (m : Int) := by omega
              have hm2 : qm < m := by omega
              have hwm : IntKind.i64.wrap ((m : Int) - 1) = (qm : Int) := by rw [IntKind.wrap_i64]; omega
              have HQM := hid hqm
              clear hqm hm0
              by_cases heq : p.n = lastTo l
              · have be : (p.n == lastTo l) = true := by simp [heq]
                have EL := hid (elic_any (R3.out.q ((Q.refl w3).drew)) (by have := FEW.out; omega))
                have HCC := hid (show elic (arrL S k l) = ackC S k l by unfold ackC; rw [← HPL.out, be]; rfl)
                have HEQ := hid heq
                clear heq
                go_wp2_with fail
                go_still_tail 12, (by kernel_rfl)
                go_wp2_with fail
                refine EL.out.mono ?_
                rintro e wE ⟨rfl, qE⟩
                have QE := hid (((Q.refl w3).drew).trans qE)
                clear qE
                go_wp2_with fail
                go_meet
                case rel => exact ⟨by rw [HCC.out], QE.out⟩
              · have be : (p.n == lastTo l) = false := by simp [heq]
                have HCC := hid (show ackC S k l = false by unfold ackC; rw [← HPL.out, be]; rfl)
                have HEQ := hid heq
                clear heq
                go_wp2_with fail
                go_quiet (fail)
                go_wp2_with fail
                go_meet
                case rel => exact ⟨by rw [HCC.out], (Q.refl w3).drewN _⟩
            case rest =>
              obtain ⟨rfl, q4⟩ := hcut
              have L4 := hid (L3.out.q q4)
              have R4 := hid (show RowP wc ⟨some ⟨g, o2, none⟩, tn, tc⟩ (arrL S k l) from R3.out.q q4)
              have BX4 := hid ((Below.block q4 _ (lt_of_block BX3.out)).trans BX3.out)
              have Q24 := hid (Q3.out.trans q4)
              clear q4 L3 R3 T3 B3 BX3 Q3
              obtain ⟨w4, hw4⟩ : ∃ w4, w4 = wc := ⟨_, rfl⟩
              rw [← hw4] at L4 R4 BX4 Q24
              have HW4 := hid hw4.symm
              rw [HW4.out]
              clear hw4
              go_upto_if 82 with fail
              go_cut [] from 17 (fun wd => Wr w4 wd rb r2 r2 (ack2 S k l delay now))
              case first =>
                cases hC : ackC S k l
                · have HA2 := hid (show ack2 S k l delay now = ack1 S k l now by unfold ack2; rw [if_neg (by simp [hC])])
                  clear hC
                  go_wp2_with fail
                  go_meet
                  case rel => rw [HA2.out]; exact Wr.refl L4.out
                · have HA2 := hid (show ack2 S k l delay now = smpS (ack1 S k l now) (now - p.a) (cutM (ack1 S k l now) k delay) by unfold ack2; rw [if_pos hC, HPL.out])
                  have ok1 := OK1.out RG.out
                  have pa0 := POK.out.a0
                  have pa1 := POK.out.a1
                  have nn := (chE_zero HC.out).2.2.1
                  have hn1 := N1.out
                  have hwl : IntKind.i64.wrap (now - p.a) = now - p.a := by rw [IntKind.wrap_i64]; omega
                  have p2 : w4.cell? ⟨w2.heap.size, 2, none⟩ = some (.int .i64 p.a) := by rw [cell_of_row _ _ _ _ 73 (0, 0) BX4.out]; rfl
                  have CT := hid (cut_any (L4.out.q ((Q.refl w4).drew)) k hk delay)
                  have hcr : 0 ≤ cutM (ack1 S k l now) k delay ∧ cutM (ack1 S k l now) k delay ≤ 16383 := by
                    have h1 := ok1.most0
                    have h2 := ok1.most1
                    have h3 := DEL.out
                    unfold cutM
                    split <;> omega
                  have SM := hid (sample_any (L4.out.q ((Q.refl w4).drew)) ok1 (now - p.a) (cutM (ack1 S k l now) k delay) (by omega) (by omega) hcr.1 hcr.2)
                  clear hC ok1 pa0 pa1 nn hn1 hcr
                  go_wp2_with fail
                  go_still_tail 11, (by kernel_rfl)
                  still_call (CT.out.mono fun e w' h => ⟨h.1, h.2.symm⟩)
                  refine wpStill_nil ?_
                  go_wp2_with fail
                  refine SM.out.mono ?_
                  rintro e wS ⟨rfl, WS⟩
                  have WS2 := hid (Wr.ql ((Q.refl w4).drew) L4.out WS)
                  clear WS
                  go_wp2_with fail
                  go_meet
                  case rel => rw [HA2.out]; exact WS2.out
              case rest =>
                have W5 := hcut
                have NFb : ∀ b, w.heap.size ≤ b → ¬ Fp rb r2 b := NF.out
                have tnew : ∀ b, blk (some (⟨g, o2, none⟩ : Addr)) = some b → w.heap.size ≤ b := fun b e => by have := NEW.out b e; have := SZ1.out; omega
                have R5 := R4.out.keep W5.kp (fun b e => NFb b (tnew b e))
                have xlt : w.heap.size ≤ w2.heap.size := by have := SZ2.out; omega
                have BX5 := (W5.kp.block _ (lt_of_block BX4.out) (NFb _ xlt)).trans BX4.out
                have hgw := GW.out DEL.out HNE.out
                have hrbw : rb < w.heap.size := HW.out.hd.lt
                have GRW := hid (grow_any (d := ⟨some ⟨g, o2, none⟩, tn, tc⟩) (l := arrL S k l) W5.la R5 (by have := FEW.out; omega) (fun e => by have := tnew _ e; omega) hgw.1 hgw.2 (fun x hx => by
                  have h1 := (HO.out.sp k hk).out x (List.mem_filter.1 hx).1
                  exact ⟨h1.s0, h1.s1⟩))
                have W5h := hid W5
                have RB5 := hid (And.intro R5 BX5)
                have TNW := hid tnew
                have XLT := hid xlt
                have HRB := hid hrbw
                clear hcut W5 NFb tnew R5 xlt BX5 hgw hrbw
                go_wp2_with fail
                refine GRW.out.mono ?_
                rintro e w6 ⟨rfl, L6, k6⟩
                have R6 := RB5.out.1.keep k6 (fun b e1 e2 => by have := TNW.out b e1; have := HRB.out; omega)
                have BX6 := (k6.block _ (lt_of_block RB5.out.2) (by have := XLT.out; have := HRB.out; omega)).trans RB5.out.2
                have c20 := L6.hd.prb
                have f20 := L6.hd.free 20
                have W7 := setPrb L6 0
                obtain ⟨w7, hw7⟩ : ∃ w7, w7 = w6.setCell ⟨rb, 20, none⟩ (.int .i64 0) := ⟨_, rfl⟩
                rw [← hw7] at W7
                have k7 : Keep (fun b => b = rb) w6 w7 := by rw [hw7]; exact (Keep.refl (fun b => b = rb) w6).setCell rb 20 _ (.inl rfl)
                have R7 := R6.keep k7 (fun b e1 e2 => by have := TNW.out b e1; have := HRB.out; omega)
                have BX7 := (k7.block _ (lt_of_block BX6) (by have := XLT.out; have := HRB.out; omega)).trans BX6
                have a7 := W7.la.hd.ack hk
                have fa7 := W7.la.hd.free (2 + k * 5 + 2)
                have W8 := W7.la.setHd (2 + k * 5 + 2) (.int .i64 (max ((ack4 S k l delay now).sp k).ack p.n)) (W7.la.hd.ack_ hk _) (fun i hi => by
                  by_cases e1 : i = k
                  · subst e1; rw [put_sp]; exact ⟨rfl, rfl⟩
                  · simp only [Lo.put, upd_other _ _ e1]; exact ⟨trivial, trivial⟩)
                have p7 : w7.cell? ⟨w2.heap.size, 0, none⟩ = some (.int .i64 p.n) := by rw [cell_of_row _ _ _ _ 73 (0, 0) BX7]; rfl
                obtain ⟨w8, hw8⟩ : ∃ w8, w8 = (w7.setCell ⟨rb, 2 + k * 5 + 2, none⟩ (.int .i64 (max ((ack4 S k l delay now).sp k).ack p.n))).drew := ⟨_, rfl⟩
                have k8 : Keep (fun b => b = rb) w7 w8 := by rw [hw8]; exact ((Keep.refl (fun b => b = rb) w7).setCell rb _ _ (.inl rfl)).drew
                have R8 := R7.keep k8 (fun b e1 e2 => by have := TNW.out b e1; have := HRB.out; omega)
                have L8 : La w8 rb r2 (ack5 S k l delay now) := by
                  have h1 := (W8.qr ((Q.refl _).drew)).la
                  rw [← hw8] at h1
                  have : ack5 S k l delay now = (ack4 S k l delay now).put k { (ack4 S k l delay now).sp k with ack := max ((ack4 S k l delay now).sp k).ack p.n } := by unfold ack5; rw [HPL.out]
                  rw [this]; exact h1
                have K28 : Keep (Fp rb r2) w2 w8 := ((Keep.ofQ Q24.out).trans W5h.out.kp).trans (((k6.trans k7).trans k8).mono (fun b _ e => .inl e))
                have NUM := hid (numbers_any (d := ⟨some ⟨g, o2, none⟩, tn, tc⟩) (l := arrL S k l) R8 (by have := FEW.out; omega))
                have OK5h := OK5.out DEL.out HBAD.out HNE.out
                have FND := hid (fun (u : World) (qu : Q w8 u) => findLost_any (L8.q qu) OK5h HNN.out hk now N0.out N1.out)
                have W28 := hid (show Wr w w8 rb r r2 (ack5 S k l delay now) from ⟨L8, (WW2.out.trans ⟨L8, K28, fun b e => .inl e⟩).kp, fun b e => .inl (FP.out b e)⟩)
                have HW7 := hid hw7.symm
                have HW8 := hid hw8.symm
                have SZ8 := hid (show w.heap.size ≤ w8.heap.size from W28.out.kp.size)
                have a7' : w7.cell? ⟨rb, 2 + k * 5 + 2, none⟩ = some (.int .i64 ((ack4 S k l delay now).sp k).ack) := a7
                clear L6 k6 R6 BX6 W7 k7 R7 BX7 W8 k8 R8 L8 K28 OK5h hw7 hw8 a7
                generalize ((ack4 S k l delay now).sp k).ack = ak at *
                go_wp2_with fail
                rw [HW7.out]
                go_still_tail 10, (by kernel_rfl)
                go_wp2_with fail
                rw [HW8.out]
                refine NUM.out.mono ?_
                rintro e w9 ⟨x, rfl, hx, q9, nx⟩
                have HX := hid (And.intro hx (And.intro q9 nx))
                clear hx q9 nx
                obtain ⟨xa, xn, xc⟩ := x
                go_wp2_with fail
                refine (FND.out w9 HX.out.2.1).mono ?_
                rintro e w10 ⟨y, r3, rfl, hy⟩
                have FINA := hid (show AckAns w rb r (ackS S k l delay now) (ackA S k l delay now) (ackL S k l delay now) (ackE S k l delay now) (.returned (.tuple #[.slice xa xn xc, .slice y.a y.n y.c, .int .i64 0])) w10 from by
                  rw [NA.out.1, NA.out.2.1, NA.out.2.2, E0.out]
                  have hx := HX.out.1
                  have q9 := HX.out.2.1
                  have nx := HX.out.2.2
                  have xnew : ∀ b, blk xa = some b → w8.heap.size ≤ b := nx
                  have nfx : ∀ b, blk xa = some b → ¬ Fp rb r2 b := fun b e1 e2 => by have := xnew b e1; have := W28.out.la.lt b e2; omega
                  refine ⟨⟨xa, xn, xc⟩, y, r3, rfl, hx.keep hy.wr.kp nfx, hy.row, (W28.out.qr q9).trans hy.wr, fun b e => ⟨by have := xnew b e; have := SZ8.out; omega, fun e2 => nfx b e (hy.fp b e2)⟩, fun b e => ⟨by have := (hy.new b e).1; have := q9.size; have := SZ8.out; omega, (hy.new b e).2⟩⟩)
                clear hy
                obtain ⟨ya, yn, yc⟩ := y
                go_wp2
                go_ret3
                exact FINA.out
    · have E111 := hid (show ackE S k l delay now = 111 by rw [EE.out, hbad]; rfl)
      have NA := hid (show ackA S k l delay now = [] ∧ ackL S k l delay now = [] ∧ ackS S k l delay now = S by unfold ackA ackL ackS; rw [E111.out]; simp)
      clear hbad
      go_wp2
      go_ret3
      rw [NA.out.2.2]
      exact ans_nil (Wr.ofQ HW.out QC.out) NA.out.1 NA.out.2.1 E111.out
end Go.Proofs.Ytjhihcmemnhbbaa
