/-
  What the program's inner take does to a buffer: the bytes of a piece that are neither read nor taken are taken. A contract that the walk of Put uses.
-/
import Derived.Test.YtdgkeidpoodmeaaTake
namespace Go.Proofs.Ytdgkeidpoodmeaa
open Go.RowKit
set_option linter.unusedVariables false

set_option maxHeartbeats 1000000 in
theorem take_none (rb : Nat) (room off high fin : Int) (known : Bool) (ready held : Int) (a : Option Addr) (n c : Nat) (p : Int) (da : Option Addr) (dn dc : Nat) (w : World) (hr : Hd w rb room off high fin known ready held a n c)
    (ho0 : 0 ≤ off) (ho1 : off ≤ 4611686018427387903) (hp0 : 0 ≤ p) (hp1 : p + dn ≤ 4611686018427387903) (hdc : dn ≤ dc) (hk : skip off p dn = dn) :
    Calls Try.prog 28 #[.pointer (some ⟨rb, 0, none⟩), .int .i64 p, .slice da dn dc] w fun r w' => r = .returned (.int .i64 0) ∧ w = w' := by
  have c1 := hr.c1
  have hw1 : IntKind.i64.wrap (off - p) = off - p := by rw [IntKind.wrap_i64]; omega
  have hm : min (max 0 (off - p)) (dn : Int) = dn := by unfold skip at hk; omega
  clear hr
  go_enter Try.func28, Try.ntmps28
  go_wp2
  all_goals go_ret
  all_goals exact ⟨rfl, rfl⟩

set_option maxHeartbeats 8000000 in
theorem take_some (rb : Nat) (room off high fin : Int) (known : Bool) (xs : Sl) (a : Option Addr) (n c : Nat) (p : Int) (db doff dn dc : Nat) (zs : List Int) (w : World) (hr : Hd w rb room off high fin known (rdy xs) (heldN xs) a n c) (hs : Sub w 62 2 a n c (flat2 xs)) (hsep : blk a ≠ some rb) (hn : n ≤ 65536)
    (hz : Seg w (some ⟨db, doff, none⟩) zs) (hl : zs.length = dn) (hd : ¬ Fp rb a db)
    (ho0 : 0 ≤ off) (ho1 : off ≤ 4611686018427387903) (hp0 : 0 ≤ p) (hp1 : p + dn ≤ 4611686018427387903) (hdc : dn ≤ dc) (hk : skip off p dn < dn) (hfit : p + dn ≤ off + 65536) :
    Calls Try.prog 28 #[.pointer (some ⟨rb, 0, none⟩), .int .i64 p, .slice (some ⟨db, doff, none⟩) dn dc] w fun r w' => ∃ a' n' c', r = .returned (.int .i64 ((heldN (putX off xs p zs) : Int) - heldN xs)) ∧ Hd w' rb room off high fin known (rdy (putX off xs p zs)) (heldN (putX off xs p zs)) a' n' c' ∧ Sub w' 62 2 a' n' c' (flat2 (putX off xs p zs)) ∧ blk a' ≠ some rb ∧ Keep (Fp rb a) w w' ∧ (∀ b, blk a' = some b → blk a = some b ∨ w.heap.size ≤ b) := by
  have c1 := hr.c1
  have hw1 : IntKind.i64.wrap (off - p) = off - p := by rw [IntKind.wrap_i64]; omega
  obtain ⟨hf, hsk⟩ := fst_eq hk
  have hfl : xs.length = n := by have := hs.1; rw [flat2_len] at this; omega
  have hX : putX off xs p zs = mix (pad (fstP off p dn + (dn - skip off p dn)) xs) (fstP off p dn) (zs.drop (skip off p dn)) (dn - skip off p dn) := by
    unfold putX putS
    rw [hl, List.length_drop, hl, if_neg (by omega)]
  generalize hkk : skip off p dn = k at *
  generalize fstP off p dn = f at *
  have hm : min (max 0 (off - p)) (dn : Int) = k := by omega
  have hw2 : IntKind.i64.wrap (p + k) = p + k := by rw [IntKind.wrap_i64]; omega
  have hw3 : IntKind.i64.wrap (p + k - off) = f := by rw [IntKind.wrap_i64]; omega
  have hw4 : IntKind.i64.wrap ((f : Int) + ((dn - k : Nat) : Int)) = ((f + (dn - k) : Nat) : Int) := by rw [IntKind.wrap_i64]; omega
  have hne : ¬ dc = k := by omega
  have hne' : ¬ (((dn - k : Nat) : Int) = 0) := by omega
  have hkd : k ≤ dn := by omega
  have hfk : f + (dn - k) ≤ 65536 := by omega
  have HF := hid hf
  have HK := hid hsk
  have HX := hid hX
  have HZ := hid (seg_drop hz k)
  have hlr : (zs.drop k).length = dn - k := by rw [List.length_drop, hl]
  generalize zs.drop k = ys at *
  generalize hrk : dn - k = r at *
  have hr0 : 0 < r := by omega
  have hr0' : ((r : Int) == 0) = false := by simp; omega
  have HL := hid hlr
  have HR := hid hr
  have HS := hid hs
  have HD := hid hd
  have HN := hid hn
  clear hr hs hf hsk hX hz hl hlr hfl hkk hp1 hfit hd hn hne'
  go_enter Try.func28, Try.ntmps28
  go_wp2_with fail
  refine (reach_any rb room off high fin known _ _ a n c xs (f + r) w HR.out HS.out hsep HN.out hfk).mono ?_
  rintro e w1 ⟨a1, c1', rfl, hr1, hs1, hsep1, hk1, hb1⟩
  have HXL := hid (show (pad (f + r) xs).length = max n (f + r) by have := hs1.1; rw [flat2_len] at this; omega)
  have HH := hid (held_pad (f + r) xs)
  generalize pad (f + r) xs = ps at *
  generalize hn1 : max n (f + r) = n1 at *
  have HN1 := hid (show f + r ≤ n1 ∧ n1 ≤ 65536 by have := HN.out; omega)
  have c7 := hr1.c7
  have HR1 := hid hr1
  have HS1 := hid hs1
  have HK1 := hid hk1
  have HB1 := hid hb1
  have HZ1 := hid (HZ.out.keep hk1 (fun b hb => by cases hb; exact HD.out))
  have HW := hid (show db < w.heap.size from by
    obtain ⟨b, o, e, hc⟩ := HZ.out (by intro e; have := HL.out; rw [e] at this; simp at this; omega)
    cases e
    exact lt_of_cell (hc 0 (by have := HL.out; omega)))
  clear hr1 hs1 hk1 hb1 hn1 c1 c7
  go_wp2
  go_loopw [44, 6, 9, 10, 11] (fun i fr _ _ _ wr => ∃ j : Nat, j ≤ r ∧ i = .int .i64 j ∧ fr = .int .i64 ((heldN (mix ps f ys j) : Int) - heldN xs) ∧ Hd wr rb room off high fin known (rdy xs) (heldN xs) a1 n1 c1' ∧ Sub wr 62 2 a1 n1 c1' (flat2 (mix ps f ys j)) ∧ Keep (fun b => blk a1 = some b) w1 wr) (fun i _ _ _ _ _ => r - (intOf i).toNat)
  case atStart => exact ⟨0, Nat.zero_le _, rfl, by rw [mix, HH.out]; simp, HR1.out, HS1.out, Keep.refl _ _⟩
  case round =>
    obtain ⟨j, hj, rfl, rfl, hrw, hsw, hkw⟩ := hrel
    have c7 := hrw.c7
    have HHM := hid (held_mix ps f ys j (by rw [HXL.out]; have := HN1.out; omega))
    have HRW := hid hrw
    have HSW := hid hsw
    have HKW := hid hkw
    by_cases hlt : j < r
    · have hlt' : (j : Int) < (r : Int) := by omega
      have hfj : f + j < n1 := by have := HN1.out; omega
      have hfj' : (f : Int) + (j : Int) < (n1 : Int) := by omega
      have hwf : IntKind.i64.wrap ((f : Int) + (j : Int)) = ((f + j : Nat) : Int) := by rw [IntKind.wrap_i64]; have := HN1.out; omega
      have hwi : IntKind.i64.wrap ((j : Int) + 1) = ((j + 1 : Nat) : Int) := by rw [IntKind.wrap_i64]; omega
      obtain ⟨g, o, rfl, hfz, d0, d1⟩ := slot_cells hsw hfj
      have hz1 := HZ1.out.keep hkw (fun b hb e => by
        have e' : db = b := by simpa [blk] using hb
        subst e'
        rcases HB1.out _ e with h | h
        · exact HD.out (.inr h)
        · have := HW.out; omega)
      have hz2 : wr.cell? ⟨db, doff + k + j, none⟩ = some (.int .u8 (ys.getD j 0)) := by
        obtain ⟨b, o', e, hc⟩ := hz1 (by intro e; have := HL.out; rw [e] at this; simp at this; omega)
        cases e
        exact hc j (by rw [HL.out]; exact hlt)
      have f0 := hfz (o + (f + j) * 2)
      have f1 := hfz (o + (f + j) * 2 + 1)
      have HST := hid (show mix ps f ys (j + 1) = set1 (mix ps f ys j) (f + j) (ys.getD j 0) from rfl)
      have HLM := hid (show (mix ps f ys j).length = n1 by rw [mix_len, HXL.out])
      clear hz1 hfz hrw hsw hkw hj
      generalize mix ps f ys j = ms at *
      generalize ys.getD j 0 = y at *
      cases hat : at_ ms (f + j) with
      | none =>
        rw [hat] at d0 d1
        simp only [Option.isSome_none, Option.getD_none] at d0 d1
        have hmj : f + j < ms.length := by rw [HLM.out]; exact hfj
        have e1 : set1 ms (f + j) y = ms.set (f + j) (some y) := by unfold set1; rw [if_pos hat]
        have HE := hid (held_set hmj hat y)
        have hwh : IntKind.i64.wrap ((heldN ms : Int) - heldN xs + 1) = (heldN ms : Int) - heldN xs + 1 := by rw [IntKind.wrap_i64]; have := HHM.out; have := HH.out; have := HN1.out; omega
        rw [e1] at HST
        have HS2 := hid (show Sub ((wr.setCell ⟨g, o + (f + j) * 2, none⟩ (.int .u8 y)).setCell ⟨g, o + (f + j) * 2 + 1, none⟩ (.bool true)) 62 2 (some ⟨g, o, none⟩) n1 c1' (flat2 (ms.set (f + j) (some y))) from by
          rw [← flat2_set, Nat.add_assoc o]
          exact (HSW.out.set rfl (by omega) _).set rfl (by omega) _)
        have HK2 := hid (show Keep (fun b => blk (some ⟨g, o, none⟩) = some b) wr ((wr.setCell ⟨g, o + (f + j) * 2, none⟩ (.int .u8 y)).setCell ⟨g, o + (f + j) * 2 + 1, none⟩ (.bool true)) from
          ((Keep.refl (fun b => blk (some ⟨g, o, none⟩) = some b) wr).setCell g _ _ (.inl rfl)).setCell g _ _ (.inl rfl))
        have HR2 := hid (HRW.out.keep HK2.out hsep1)
        clear hat e1 hmj
        go_wp2
        go_roundw
        case rel => exact ⟨j + 1, by omega, by go_num, by rw [HST.out, HE.out]; congr 1; omega, HR2.out, by rw [HST.out]; exact HS2.out, HKW.out.trans HK2.out⟩
        case measure => simp [intOf]; omega
      | some v =>
        rw [hat] at d0 d1
        simp only [Option.isSome_some, Option.getD_some] at d0 d1
        have HAT := hid hat
        clear hat
        go_wp2
        go_roundw
        case rel =>
          have e1 : set1 ms (f + j) y = ms := by unfold set1; rw [if_neg (by rw [HAT.out]; simp)]
          exact ⟨j + 1, by omega, by go_num, by rw [HST.out, e1], HRW.out, by rw [HST.out, e1]; exact HSW.out, HKW.out⟩
        case measure => simp [intOf]; omega
    · obtain rfl : j = r := by omega
      rw [← HX.out] at HSW HHM
      have HHD := hid (show heldN xs ≤ heldN (putX off xs p zs) ∧ heldN (putX off xs p zs) ≤ 65536 from by
        have := HHM.out; have := HH.out; have := held_le (putX off xs p zs); have h3 := HSW.out.1; rw [flat2_len] at h3; have := HN1.out; omega)
      have HRD := hid (show rdy xs ≤ rdy (putX off xs p zs) from rdy_put _ _ _)
      have HXN := hid (show (putX off xs p zs).length = n1 from by have h3 := HSW.out.1; rw [flat2_len] at h3; omega)
      have HKA := hid (show Keep (Fp rb a) w wr from HK1.out.trans' HKW.out (fun i hi e => by
        rcases HB1.out _ e with h | h
        · exact .inr h
        · omega))
      have hxe : (heldN (mix ps f ys j) : Int) = heldN (putX off xs p zs) := by rw [HX.out]
      rw [hxe]
      clear hxe hsw hkw hj HX HHM
      generalize hX : putX off xs p zs = X at *
      have HXE := hid hX
      clear hX
      have c6 := hrw.c6
      have f6 := hrw.free 6
      have hwh : IntKind.i64.wrap ((heldN xs : Int) + ((heldN X : Int) - heldN xs)) = heldN X := by rw [IntKind.wrap_i64]; have := HHD.out; omega
      have HR3 := hid (hrw.held_ (heldN X))
      have HS3 := hid (HSW.out.keep ((Keep.refl (fun k => k = rb) wr).setCell rb 6 (.int .i64 (heldN X)) (.inl rfl)) (fun b hb e => hsep1 (by rw [hb, e])))
      have HK3 := hid (HKA.out.setCell rb 6 (.int .i64 (heldN X)) (.inl (.inl rfl)))
      clear hrw c7
      go_wp2
      generalize wr.setCell ⟨rb, 6, none⟩ (.int .i64 (heldN X)) = w2 at *
      go_loopw [] (fun wq => ∃ q : Nat, q ≤ rdy X ∧ Hd wq rb room off high fin known q (heldN X) a1 n1 c1' ∧ Sub wq 62 2 a1 n1 c1' (flat2 X) ∧ Keep (Fp rb a) w wq) (fun wq => n1 - (intOf ((wq.cell? ⟨rb, 5, none⟩).getD (.int .i64 0))).toNat)
      case atStart => exact ⟨rdy xs, HRD.out, HR3.out, HS3.out, HK3.out⟩
      case round =>
        obtain ⟨q, hq, hrq, hsq, hkq⟩ := hrel
        have c5 := hrq.c5
        have c7 := hrq.c7
        have f5 := hrq.free 5
        have HQN := hid (show q ≤ n1 from by have := rdy_le X; have := HXN.out; omega)
        have HRQ := hid hrq
        have HSQ := hid hsq
        have HKQ := hid hkq
        have HQ := hid hq
        by_cases hlt : q < rdy X
        · obtain ⟨v, hv⟩ := rdy_some hlt
          have hqn : q < n1 := by have := rdy_le X; have := HXN.out; omega
          have hqn' : (q : Int) < (n1 : Int) := by omega
          have hqd : decide ((q : Int) < (n1 : Int)) = true := by simp; omega
          have hwq : IntKind.i64.wrap ((q : Int) + 1) = ((q + 1 : Nat) : Int) := by rw [IntKind.wrap_i64]; have := HN1.out; omega
          obtain ⟨g, o, rfl, hfz, d0, d1⟩ := slot_cells hsq hqn
          rw [hv] at d1
          simp only [Option.isSome_some] at d1
          have HLT := hid hlt
          have HR4 := hid (show ∀ m, Hd ((wr.drewN m).setCell ⟨rb, 5, none⟩ (.int .i64 ((q : Int) + 1))) rb room off high fin known ((q + 1 : Nat) : Int) (heldN X) (some ⟨g, o, none⟩) n1 c1' from fun m => by
            have := (hrq.q ((Q.refl wr).drewN m)).ready_ ((q : Int) + 1)
            rwa [show (q : Int) + 1 = ((q + 1 : Nat) : Int) by omega] at this ⊢)
          have HS4 := hid (show ∀ m, Sub ((wr.drewN m).setCell ⟨rb, 5, none⟩ (.int .i64 ((q : Int) + 1))) 62 2 (some ⟨g, o, none⟩) n1 c1' (flat2 X) from fun m =>
            (hsq.q ((Q.refl wr).drewN m)).keep ((Keep.refl (fun k => k = rb) _).setCell rb 5 _ (.inl rfl)) (fun b hb e => hsep1 (by rw [hb, e])))
          have HK4 := hid (show ∀ m, Keep (Fp rb a) w ((wr.drewN m).setCell ⟨rb, 5, none⟩ (.int .i64 ((q : Int) + 1))) from fun m => (hkq.drewN m).setCell rb 5 _ (.inl (.inl rfl)))
          clear hfz hrq hsq hkq hq hlt hv d0
          go_wp2
          go_quiet (fail)
          go_wp2
          go_roundw
          case rel => exact ⟨q + 1, HLT.out, HR4.out nq, HS4.out nq, HK4.out nq⟩
          case measure =>
            have h5 := (HR4.out nq).c5
            simp only [c5, h5, Option.getD_some, intOf]
            omega
        · obtain rfl : q = rdy X := by omega
          have hno := rdy_none X
          have FIN := hid (show ∀ m, Hd (wr.drewN m) rb room off high fin known (rdy X) (heldN X) a1 n1 c1' ∧ Sub (wr.drewN m) 62 2 a1 n1 c1' (flat2 X) ∧ Keep (Fp rb a) w (wr.drewN m) from fun m =>
            ⟨hrq.q ((Q.refl wr).drewN m), hsq.q ((Q.refl wr).drewN m), hkq.drewN m⟩)
          by_cases hqn : rdy X < n1
          · have hqn' : (rdy X : Int) < (n1 : Int) := by omega
            have hqd : decide ((rdy X : Int) < (n1 : Int)) = true := by simp; omega
            obtain ⟨g, o, rfl, hfz, d0, d1⟩ := slot_cells hsq hqn
            rw [hno] at d1
            simp only [Option.isSome_none] at d1
            clear hfz hrq hsq hkq hq hlt hno d0
            generalize hqq : rdy X = q at *
            have HQQ := hid hqq
            clear hqq
            go_wp2
            go_quiet (fail)
            go_wp2
            go_ret
            rw [HXE.out]
            exact ⟨_, n1, c1', rfl, by rw [HQQ.out]; exact (FIN.out nq).1, (FIN.out nq).2.1, hsep1, (FIN.out nq).2.2, HB1.out⟩
          · have hqd : decide ((rdy X : Int) < (n1 : Int)) = false := by simp; omega
            clear hrq hsq hkq hq hlt hno
            generalize hqq : rdy X = q at *
            have HQQ := hid hqq
            clear hqq
            go_wp2
            go_quiet (fail)
            go_wp2
            go_ret
            rw [HXE.out]
            exact ⟨_, n1, c1', rfl, by rw [HQQ.out]; exact (FIN.out nq).1, (FIN.out nq).2.1, hsep1, (FIN.out nq).2.2, HB1.out⟩

/-- Both together. -/
theorem take_any (rb : Nat) (room off high fin : Int) (known : Bool) (xs : Sl) (a : Option Addr) (n c : Nat) (p : Int) (da : Option Addr) (dn dc : Nat) (zs : List Int) (w : World) (hr : Hd w rb room off high fin known (rdy xs) (heldN xs) a n c) (hs : Sub w 62 2 a n c (flat2 xs)) (hsep : blk a ≠ some rb) (hn : n ≤ 65536)
    (hz : Seg w da zs) (hl : zs.length = dn) (hd : ∀ b, blk da = some b → ¬ Fp rb a b)
    (ho0 : 0 ≤ off) (ho1 : off ≤ 4611686018427387903) (hp0 : 0 ≤ p) (hp1 : p + dn ≤ 4611686018427387903) (hdc : dn ≤ dc) (hfit : p + dn ≤ off + 65536) :
    Calls Try.prog 28 #[.pointer (some ⟨rb, 0, none⟩), .int .i64 p, .slice da dn dc] w fun r w' => ∃ a' n' c', r = .returned (.int .i64 ((heldN (putX off xs p zs) : Int) - heldN xs)) ∧ Hd w' rb room off high fin known (rdy (putX off xs p zs)) (heldN (putX off xs p zs)) a' n' c' ∧ Sub w' 62 2 a' n' c' (flat2 (putX off xs p zs)) ∧ blk a' ≠ some rb ∧ Keep (Fp rb a) w w' ∧ (∀ b, blk a' = some b → blk a = some b ∨ w.heap.size ≤ b) := by
  have hle := skip_le off p dn
  by_cases hk : skip off p dn = dn
  · have e : putX off xs p zs = xs := by
      unfold putX putS
      rw [if_pos (by rw [rest_len, hl, hk]; omega)]
    refine (take_none rb room off high fin known _ _ a n c p da dn dc w hr ho0 ho1 hp0 hp1 hdc hk).mono ?_
    rintro r w' ⟨rfl, rfl⟩
    rw [e]
    exact ⟨a, n, c, ret_int (by omega), hr, hs, hsep, Keep.refl _ _, fun b h => .inl h⟩
  · obtain ⟨db, doff, rfl, _⟩ := hz (by intro e; rw [e] at hl; simp at hl; omega)
    exact take_some rb room off high fin known xs a n c p db doff dn dc zs w hr hs hsep hn hz hl (hd db rfl) ho0 ho1 hp0 hp1 hdc (by omega) hfit

end Go.Proofs.Ytdgkeidpoodmeaa
