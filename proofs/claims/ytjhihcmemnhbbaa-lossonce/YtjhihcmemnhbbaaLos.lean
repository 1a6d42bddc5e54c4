/-
  What patience, shrink and the test of findLost answer: contracts that the statements' walks use.
-/
import Derived.Test.YtjhihcmemnhbbaaSnt
import Derived.Test.YtjhihcmemnhbbaaTake
namespace Go.Proofs.Ytjhihcmemnhbbaa
open Go.RowKit
set_option linter.unusedVariables false
set_option maxRecDepth 20000

theorem patience_any {N : Nat} {w : World} {rb : Nat} {r : Nat → Sv} {S : Lo} (h : La w rb r S) (hO : Ok N S) : Calls Try.prog 43 #[.pointer (some ⟨rb, 21, none⟩)] w fun e w' => e = .returned (.int .i64 (pat S)) ∧ ∃ n, w' = w.drewN n := by
  have c1 := h.hd.lat
  have c2 := h.hd.smo
  have o1 := hO.lat0
  have o2 := hO.lat1
  have o3 := hO.smo0
  have o4 := hO.smo1
  have hw : IntKind.i64.wrap (9 * max S.lat S.smo) = 9 * max S.lat S.smo := by rw [IntKind.wrap_i64]; omega
  clear h hO
  go_enter Try.func43, Try.ntmps43
  go_wp2
  go_quiet (fail)
  go_wp2
  go_ret
  exact ⟨ret_int rfl, _, rfl⟩

def lastE (l : List Pk) : Int := l.foldl (fun acc p => if p.e then p.a else acc) (-1)
theorem lastE_snoc (l : List Pk) (p : Pk) : lastE (l ++ [p]) = if p.e then p.a else lastE l := by unfold lastE; rw [List.foldl_append]; rfl
def shr (S : Lo) (lost : List Pk) (now : Int) : Lo := if lastE lost ≤ S.rcv then S else { S with rcv := now, thr := S.win / 2, win := max (S.win / 2) 2400 }

set_option maxHeartbeats 1000000 in
theorem shrink_any {N : Nat} {w : World} {rb : Nat} {r : Nat → Sv} {S : Lo} (h : La w rb r S) (hO : Ok N S) {d : Sv} {l : List Pk} (ht : RowP w d l) (hf : l.length ≤ 100000) (hN : N ≤ 4398046511103) (now : Int) :
    Calls Try.prog 45 #[.pointer (some ⟨rb, 0, none⟩), .slice d.a d.n d.c, .int .i64 now] w fun e w' => e = .returned (.tuple #[]) ∧ Wr w w' rb r r (shr S l now) := by
  have hl := ht.len
  obtain ⟨a, n, cc⟩ := d
  simp only at hl
  have HT := hid ht
  have HL := hid hl
  have H := hid h
  have hn : n ≤ 100000 := by omega
  have w0 := hO.win0
  have w1 := hO.win1
  have HW1 := hid w1
  have HNN := hid hN
  clear ht hl hf h hO w1 hN
  go_enter Try.func45, Try.ntmps45
  go_wp2
  go_loopw [6, 11] (fun x i wr => ∃ j : Nat, j ≤ n ∧ i = .int .i64 j ∧ x = .int .i64 (lastE (l.take j)) ∧ Q w wr) (fun _ i _ => n - (intOf i).toNat)
  case atStart => exact ⟨0, Nat.zero_le _, rfl, rfl, Q.refl w⟩
  case round =>
    obtain ⟨j, hj, rfl, rfl, hq⟩ := hrel
    by_cases hlt : j < n
    · have hlt' : (j : Int) < (n : Int) := by omega
      obtain ⟨g, o2, rfl, _, hs⟩ := RowP.at_ (d := ⟨a, n, cc⟩) (l := l) (HT.out.q hq) (k := j) hlt
      have c0 := hs.c0
      have c1 := hs.c1
      have c2 := hs.c2
      have c3 := hs.c3
      have hwi : IntKind.i64.wrap ((j : Int) + 1) = ((j + 1 : Nat) : Int) := by rw [IntKind.wrap_i64]; omega
      have HE := hid (show lastE (l.take (j + 1)) = if (l.getD j noPk).e then (l.getD j noPk).a else lastE (l.take j) by rw [take_succ_at (d := noPk) (by rw [HL.out]; exact hlt), lastE_snoc])
      have HQ := hid hq
      clear hs hq
      generalize lastE (l.take j) = U at *
      generalize l.getD j noPk = p at *
      obtain ⟨p1, p2, p3, p4⟩ := p
      cases p4
      · simp only at c0 c1 c2 c3
        go_wp2
        go_roundw
        case rel => exact ⟨j + 1, by omega, by go_num, by rw [HE.out]; rfl, (HQ.out.alloc _)⟩
        case measure => simp [intOf]; omega
      · simp only at c0 c1 c2 c3
        go_wp2
        go_roundw
        case rel => exact ⟨j + 1, by omega, by go_num, by rw [HE.out]; rfl, (HQ.out.alloc _)⟩
        case measure => simp [intOf]; omega
    · obtain rfl : j = n := by omega
      have HQ := hid hq
      have HE : lastE (l.take j) = lastE l := by rw [List.take_of_length_le (by rw [HL.out]; exact Nat.le_refl _)]
      rw [HE]
      have hL := H.out.q hq
      have c5 := hL.hd.rcv
      have f5 := hL.hd.free 19
      have c3 := hL.hd.win
      clear hj hlt hq HE
      by_cases hle : lastE l ≤ S.rcv
      · have b1 : decide (lastE l ≤ S.rcv) = true := by simp [hle]
        have HS := hid (show shr S l now = S by unfold shr; rw [if_pos hle])
        clear hle hL
        generalize lastE l = U at *
        go_wp2
        (try simp only [Exit.inBlock, Exit.then]); refine bodyPost_ret (results_none rfl _ _ _) rfl ?_
        exact ⟨rfl, by rw [HS.out]; exact Wr.ofQ H.out HQ.out⟩
      · have b1 : decide (lastE l ≤ S.rcv) = false := by simp; omega
        have HS := hid (show shr S l now = { S with rcv := now, thr := S.win / 2, win := max (S.win / 2) 2400 } by unfold shr; rw [if_neg hle])
        have W1 := hL.setHd 19 (.int .i64 now) (hL.hd.rcv_ now) (fun i hi => ⟨rfl, rfl⟩)
        have ed : S.win.tdiv 2 = S.win / 2 := by rw [Int.tdiv_eq_ediv_of_nonneg (by omega)]
        have d3 := W1.la.hd.win
        have d4 := W1.la.hd.thr
        have g4 := W1.la.hd.free 18
        have W2 := W1.la.setHd 18 (.int .i64 (S.win / 2)) (W1.la.hd.thr_ (S.win / 2)) (fun i hi => ⟨rfl, rfl⟩)
        have e4 := W2.la.hd.thr
        have e3 := W2.la.hd.win
        have h3 := W2.la.hd.free 17
        have W3 := W2.la.setHd 17 (.int .i64 (max (S.win / 2) 2400)) (W2.la.hd.win_ (max (S.win / 2) 2400)) (fun i hi => ⟨rfl, rfl⟩)
        have FIN := hid (Wr.ql HQ.out H.out (W1.trans (W2.trans W3)))
        have HED := hid ed
        have hwin : S.win ≤ 300000000000000000 := by have := HW1.out; have := HNN.out; omega
        clear hle hL W1 W2 W3
        generalize lastE l = U at *
        go_wp2
        go_end0
        exact ⟨rfl, by rw [HS.out]; exact FIN.out⟩

/-- Is a packet lost? -/
def lostP (ack now pt : Int) (p : Pk) : Bool := decide (p.n ≤ ack - 3) || (decide (p.n < ack) && decide (p.a ≤ now - pt))
set_option maxHeartbeats 1000000 in
theorem lostf_any {u : World} {rb o x1 x2 x3 : Nat} {ack now pt : Int} (p : Pk) (a0 : -1 ≤ ack) (a1 : ack ≤ 4611686018427387903) (n0 : 0 ≤ now) (n1 : now ≤ 1099511627776) (t0 : 0 ≤ pt) (t1 : pt ≤ 4398046511104)
    (c1 : u.cell? ⟨x1, 0, none⟩ = some (.pointer (some ⟨rb, o, none⟩))) (c2 : u.cell? ⟨x2, 0, none⟩ = some (.int .i64 now)) (c3 : u.cell? ⟨x3, 0, none⟩ = some (.int .i64 pt)) (c4 : u.cell? ⟨rb, o + 2, none⟩ = some (.int .i64 ack)) :
    Calls Try.prog 44 #[.agg #[.int .i64 p.n, .int .i64 p.s, .int .i64 p.a, .bool p.e], .pointer (some ⟨x1, 0, none⟩), .pointer (some ⟨x2, 0, none⟩), .pointer (some ⟨x3, 0, none⟩)] u fun e u' => e = .returned (.bool (lostP ack now pt p)) ∧ Q u u' := by
  have hq : Q u (u.alloc (.cells #[.int .i64 p.n, .int .i64 p.s, .int .i64 p.a, .bool p.e] 73)) := (Q.refl u).alloc _
  have k1 := (hq.cell (p := ⟨x1, 0, none⟩) (lt_of_cell c1)).trans c1
  have k2 := (hq.cell (p := ⟨x2, 0, none⟩) (lt_of_cell c2)).trans c2
  have k3 := (hq.cell (p := ⟨x3, 0, none⟩) (lt_of_cell c3)).trans c3
  have k4 := (hq.cell (p := ⟨rb, o + 2, none⟩) (lt_of_cell c4)).trans c4
  have hw1 : IntKind.i64.wrap (ack - 3) = ack - 3 := by rw [IntKind.wrap_i64]; omega
  have hw2 : IntKind.i64.wrap (now - pt) = now - pt := by rw [IntKind.wrap_i64]; omega
  clear hq c1 c2 c3 c4
  by_cases h1 : p.n ≤ ack - 3
  · have b1 : decide (p.n ≤ ack - 3) = true := by simp [h1]
    have HE := hid (show lostP ack now pt p = true by unfold lostP; rw [b1]; rfl)
    clear h1 a0 a1 n0 n1 t0 t1
    go_enter Try.func44, Try.ntmps44
    go_wp2
    go_quiet (fail)
    go_wp2
    go_ret
    exact ⟨by rw [HE.out]; rfl, ((Q.refl u).alloc _).drewN _⟩
  · have b1 : decide (p.n ≤ ack - 3) = false := by simp; omega
    by_cases h2 : p.n < ack
    · have b2 : decide (p.n < ack) = true := by simp [h2]
      have HE := hid (show lostP ack now pt p = decide (p.a ≤ now - pt) by unfold lostP; rw [b1, b2]; rfl)
      clear h1 h2 a0 a1 n0 n1 t0 t1
      go_enter Try.func44, Try.ntmps44
      go_wp2
      go_quiet (fail)
      go_wp2
      go_ret
      exact ⟨by rw [HE.out]; rfl, ((Q.refl u).alloc _).drewN _⟩
    · have b2 : decide (p.n < ack) = false := by simp; omega
      have HE := hid (show lostP ack now pt p = false by unfold lostP; rw [b1, b2]; rfl)
      clear h1 h2 a0 a1 n0 n1 t0 t1
      go_enter Try.func44, Try.ntmps44
      go_wp2
      go_quiet (fail)
      go_wp2
      go_ret
      exact ⟨by rw [HE.out]; rfl, ((Q.refl u).alloc _).drewN _⟩
end Go.Proofs.Ytjhihcmemnhbbaa
