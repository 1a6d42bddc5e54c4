/-
  What the law's own rest answers, where a set and the document's set hold the same: true. A contract that the walk of SpansPlays uses.
-/
import Derived.Test.YtmcemfjnenfcaaaLaw
import Derived.Test.YtmcemfjnenfcaaaRef
namespace Go.Proofs.Ytmcemfjnenfcaaa
open Go.RowKit
set_option linter.unusedVariables false

set_option maxHeartbeats 8000000 in
set_option maxRecDepth 100000 in
theorem rest_some (rb rd : Nat) (a ad : Option Addr) (n c cd : Nat) (most floor : Int) (xs : List Sp) (w : World) (hs : St w rb a n c most floor xs) (hd : Rt w rd ad n cd most floor xs) (hn : n ≤ 64) (h0 : 0 < n) :
    Calls Try.prog 20 #[.pointer (some ⟨rb, 0, none⟩), .pointer (some ⟨rd, 0, none⟩)] w fun e w' => e = .returned (.bool true) ∧ Q w w' := by
  have HS := hid hs
  have HD := hid hd
  have hl := hs.len
  have hrb := hs.hd.lt
  have hrd := hd.hd.lt
  clear hs hd
  go_enter Try.func20, Try.ntmps20
  go_wp2_with fail
  refine (list_any 0 rb most floor a n c xs w HS.out.hd HS.out.own (by omega)).mono ?_
  rintro e w1 ⟨g5, a5, c5, rfl, ho5, hq5, ha5⟩
  obtain rfl := ha5 h0
  have S1 := hid (HS.out.q hq5)
  have D1 := hid (HD.out.q hq5)
  have Q1 := hid hq5
  have hg5 := (ho5.lt g5 rfl)
  have hsm := fun k => same_any (some ⟨g5, 0, none⟩) ad n c5 cd xs (w1.drewN k) (ho5.seg.q ((Q.refl _).drewN k)) ((HD.out.q hq5).seg.q ((Q.refl _).drewN k)) hl (by omega)
  have hfl := fun k => (floor_any rb most floor a n c (w1.drewN k) ((HS.out.q hq5).hd.drewN k)).mono (R' := fun e w' => e = .returned (.int .i64 floor) ∧ w' = w1.drewN k) (by rintro e w' ⟨rfl, rfl⟩; exact ⟨rfl, rfl⟩)
  have HSM := hid hsm
  have HFL := hid hfl
  have O5 := hid ho5
  have dc1 := D1.out.hd.c1
  have dc2 := D1.out.hd.c2
  have hff : (floor != floor) = false := by simp
  clear ho5 hq5 ha5 hsm hfl
  go_wp2
  go_quiet (first | (go_at_call 30; exact Calls.quiet_of (HSM.out _)) | (go_at_call 13; exact Calls.quiet_of_same (HFL.out _)))
  go_wp2
  obtain ⟨cur, hg, hnc, hcs⟩ : ∃ cur, w1.heap[g5]? = some (.cells cur 49 (0, 0)) ∧ n ≤ c5 ∧ cur.size = c5 * 2 := by
    rcases O5.out.row with ⟨h, _⟩ | ⟨g, cur, e, _, hg, h1, _, h3, _⟩
    · cases h
    · cases e; exact ⟨cur, hg, h1, h3⟩
  have HG := hid hg
  clear hg dc1 dc2
  go_loopw [29] (fun v wr => ∃ i : Nat, ∃ cur : Array Value, i ≤ n ∧ v = .int .i64 i ∧ wr.heap[g5]? = some (.cells cur 49 (0, 0)) ∧ cur.size = c5 * 2 ∧ Keep (fun b => b = g5) w1 wr) (fun i _ => n - (intOf i).toNat)
  case atStart => exact ⟨0, cur, Nat.zero_le _, rfl, HG.out, hcs, (Keep.refl _ w1).drewN _⟩
  case round =>
    obtain ⟨i, cu, hi, rfl, hgc, hcz, hk⟩ := hrel
    have HGC := hid hgc
    have HK := hid hk
    by_cases hin : i < n
    · have hlt' : (i : Int) < (n : Int) := by omega
      have hcell : wr.cell? ⟨g5, i * 2, none⟩ = some (cu[i * 2]'(by omega)) := by
        rw [cell_of_row wr g5 _ cu 49 (0, 0) hgc, Array.getElem?_eq_getElem (by omega)]
      have hfz := frozen_of_row wr g5 (i * 2) cu 49 hgc
      have HN := hid (heap_setCell_same wr g5 (i * 2) cu 49 (.int .i64 (-1)) hgc)
      clear hgc hk
      generalize cu[i * 2]'(by omega) = vv at *
      go_wp2
      go_roundw
      case rel => exact ⟨i + 1, _, by omega, by go_num, HN.out, by simp; omega, HK.out.setCell g5 _ _ (.inl rfl)⟩
      case measure => simp [intOf]; omega
    · obtain rfl : i = n := by omega
      have Sr := hid (S1.out.keep hk (by omega) (fun b hb e => by have := (HS.out.own.lt b hb).2; omega))
      have Dr := hid (D1.out.keep hk (by omega) (fun b hb e => by have := HD.out.lt b hb; omega))
      have Qr := hid (show Q w wr from ((Keep.ofQ (F := fun b => b = g5) Q1.out).trans hk).toQ (fun i hi e => by omega))
      clear hgc hk
      go_wp2_with fail
      refine (high_some rb most floor a i c xs wr Sr.out.hd Sr.out.own.seg hl h0 (by omega)).mono ?_
      rintro e w2 ⟨rfl, k2, rfl⟩
      have dc2 := (Dr.out.hd.drewN k2).c2
      obtain ⟨b, off, hab, d0, d1, d2⟩ := seg_last (k := i - 1) (Dr.out.seg.q ((Q.refl wr).drewN k2)) hl (by omega)
      subst hab
      have hz : ((i : Int) == 0) = false := by simp; omega
      have q1 : ((i : Int) - 1).toNat = i - 1 := by omega
      have q2 : (0 : Int) ≤ (i : Int) - 1 := by omega
      have q3 : (1 : Int) ≤ (i : Int) := by omega
      have q4 : 1 ≤ i := by omega
      have q5 : (i : Int) - 1 < (i : Int) := by omega
      have hwb : IntKind.i64.wrap ((i : Int) - 1) = (i : Int) - 1 := by rw [IntKind.wrap_i64]; omega
      have Q2 := hid (Qr.out.drewN k2)
      generalize xs.getD (i - 1) (0, 0) = y at *
      have hyy : (y.2 == y.2) = true := by simp
      generalize wr.drewN k2 = w2 at *
      go_wp2
      go_quiet (fail)
      go_wp2
      go_ret
      exact ⟨rfl, Q2.out.drewN _⟩

set_option maxHeartbeats 8000000 in
set_option maxRecDepth 100000 in
theorem rest_none (rb rd : Nat) (a ad : Option Addr) (c cd : Nat) (most floor : Int) (w : World) (hs : St w rb a 0 c most floor []) (hd : Rt w rd ad 0 cd most floor []) :
    Calls Try.prog 20 #[.pointer (some ⟨rb, 0, none⟩), .pointer (some ⟨rd, 0, none⟩)] w fun e w' => e = .returned (.bool true) ∧ Q w w' := by
  have HS := hid hs
  have HD := hid hd
  clear hs hd
  go_enter Try.func20, Try.ntmps20
  go_wp2_with fail
  refine (list_any 0 rb most floor a 0 c [] w HS.out.hd HS.out.own (by omega)).mono ?_
  rintro e w1 ⟨g5, a5, c5, rfl, ho5, hq5, ha5⟩
  have S1 := hid (HS.out.q hq5)
  have D1 := hid (HD.out.q hq5)
  have Q1 := hid hq5
  have HSM := hid (fun k => same_any a5 ad 0 c5 cd [] (w1.drewN k) (seg_nil _ _) (seg_nil _ _) rfl (by omega))
  have HFL := hid (fun k => (floor_any rb most floor a 0 c (w1.drewN k) ((HS.out.q hq5).hd.drewN k)).mono (R' := fun e w' => e = .returned (.int .i64 floor) ∧ w' = w1.drewN k) (by rintro e w' ⟨rfl, rfl⟩; exact ⟨rfl, rfl⟩))
  have dc1 := D1.out.hd.c1
  have dc2 := D1.out.hd.c2
  have hff : (floor != floor) = false := by simp
  clear ho5 hq5 ha5
  go_wp2
  go_quiet (first | (go_at_call 30; exact Calls.quiet_of (HSM.out _)) | (go_at_call 13; exact Calls.quiet_of_same (HFL.out _)))
  go_wp2
  refine wp_loop_rounds 1 ?_
  rw [rounds_succ]
  go_wp2_with fail
  refine (high_none rb most floor a c _ (S1.out.hd.drewN nq)).mono ?_
  rintro e w2 ⟨rfl, rfl⟩
  have e1 : (w1.drewN nq).cell? ⟨rd, 2, none⟩ = some (.slice ad 0 cd) := dc2
  go_wp2
  go_ret
  exact ⟨rfl, Q1.out.drewN _⟩

theorem rest_any (rb rd : Nat) (a ad : Option Addr) (n nd c cd : Nat) (most floor : Int) (xs : List Sp) (w : World) (hs : St w rb a n c most floor xs) (hd : Rt w rd ad nd cd most floor xs) (hn : n ≤ 64) :
    Calls Try.prog 20 #[.pointer (some ⟨rb, 0, none⟩), .pointer (some ⟨rd, 0, none⟩)] w fun e w' => e = .returned (.bool true) ∧ Q w w' := by
  obtain rfl : n = nd := hs.len.symm.trans hd.len
  by_cases h0 : n = 0
  · subst h0
    obtain rfl : xs = [] := List.eq_nil_of_length_eq_zero hs.len
    exact rest_none rb rd a ad c cd most floor w hs hd
  · exact rest_some rb rd a ad n c cd most floor xs w hs hd hn (by omega)

end Go.Proofs.Ytmcemfjnenfcaaa
