/-
  Proved: for every int and every slice of ints the law turnpikelaw04.SendqKeeps returns true, and its arguments read as they did. No condition beyond the form's own reach.
-/
import Derived.Test.YtppemfdoogmeeaaRows
import Derived.Test.YtppemfdoogmeeaaAwake
import Derived.Test.YtppemfdoogmeeaaRim
import Derived.Test.YtppemfdoogmeeaaAck
import Derived.Test.YtppemfdoogmeeaaLaw
import Derived.Test.YtppemfdoogmeeaaOpen
import Derived.Test.YtppemfdoogmeeaaKeepM
import Derived.WalkKit
import Derived.ProofKit
import Derived.OpenShut
import Derived.ShutString
import Derived.ChangeOld
import Derived.Below
import Derived.SizedLaws
namespace Go.Proofs.Ytppemfdoogmeeaa.sendqKeeps
open Go.ChangeShapes Go.WideShapes Go.ChangeAt Go.RowKit
open Go.ChangeMaps (open_string shut_string)
set_option linter.unusedVariables false

variable {W : World}

/-- The queue is apart from all that was there. -/
structure Inv (W w : World) (rb : Nat) (d m : Sv) (room : Int) (s : S) : Prop where
  bf : Bf w rb d m room s
  ok : Ok room s
  w1 : ∀ i, Fp rb d m i → W.heap.size ≤ i
  q : Q W w
theorem Inv.go {w w' : World} {rb : Nat} {d m : Sv} {room : Int} {s : S} (h : Inv W w rb d m room s) (k : Q w w') : Inv W w' rb d m room s := ⟨h.bf.q k, h.ok, h.w1, h.q.trans k⟩
theorem Inv.step {w w' : World} {rb : Nat} {d m d' m' : Sv} {room : Int} {s s' : S} (h : Inv W w rb d m room s) (b : Bf w' rb d' m' room s') (o : Ok room s') (k : Keep (Fp rb d m) w w') (f : ∀ i, Fp rb d' m' i → Fp rb d m i ∨ w.heap.size ≤ i) : Inv W w' rb d' m' room s' := by
  refine ⟨b, o, fun i hi => ?_, ?_⟩
  · rcases f i hi with hh | hh
    · exact h.w1 i hh
    · have := h.q.size; omega
  · exact ((Keep.ofQ (F := fun i => W.heap.size ≤ i) h.q).trans (k.mono (fun i _ e => h.w1 i e))).toQ (fun i hi e => by omega)

theorem seg_zeros {w : World} {base g n : Nat} (h : w.ownsRow base 5 1 (.slice (some ⟨g, 0, none⟩) n n) n (u8s (List.replicate n 0))) : Seg w (some ⟨g, 0, none⟩) (List.replicate n 0) := by
  have hb := made_block h
  intro hne
  refine ⟨g, 0, rfl, fun i hi => ?_⟩
  rw [cell_of_row w g _ _ 5 (0, 0) hb]
  rw [List.length_replicate] at hi
  have e : (List.replicate n (0 : Int)).getD i 0 = 0 := by rw [List.getD_eq_getElem?_getD, List.getElem?_replicate, if_pos hi]; rfl
  rw [e]
  simp [hi]

set_option maxHeartbeats 1000000 in
set_option maxRecDepth 100000 in
theorem walk_bad (room : Int) (a0 : Option Addr) (l0 p0 : Nat) (hb : ¬ (1 ≤ room ∧ room ≤ 65536)) : Calls Try.prog 7 #[.int .i64 room, .slice a0 l0 p0] W fun e w' => e = .returned (.bool true) ∧ Below W.heap.size W w' := by
  have HN := hid hb
  by_cases h1 : room < 1
  · have b1 : decide (room < 1) = true := by simp [h1]
    clear hb
    go_enter Try.func7, Try.ntmps7
    go_wp2_with fail
    refine (new_bad room W HN.out).mono ?_
    rintro e w1 ⟨rfl, rfl⟩
    go_wp2_with fail
    refine (awake_any _).mono ?_
    rintro e w7 ⟨rfl, hq7⟩
    have Q7 := hid hq7
    clear hq7
    go_wp2
    go_ret
    exact ⟨rfl, Q7.out⟩
  · have b1 : decide (room < 1) = false := by simp [h1]
    have b3 : (65536 : Int) < room := by omega
    have b2 : decide ((65536 : Int) < room) = true := by simp; omega
    clear hb
    go_enter Try.func7, Try.ntmps7
    go_wp2_with fail
    refine (new_bad room W HN.out).mono ?_
    rintro e w1 ⟨rfl, rfl⟩
    go_wp2_with fail
    refine (awake_any _).mono ?_
    rintro e w7 ⟨rfl, hq7⟩
    have Q7 := hid hq7
    clear hq7
    go_wp2
    go_ret
    exact ⟨rfl, Q7.out⟩

set_option maxHeartbeats 8000000 in
set_option maxRecDepth 100000 in
theorem walk_good (room : Int) (a0 : Option Addr) (l0 p0 : Nat) (zs : List Int) (hl : zs.length = l0) (hs : SegN W a0 zs) (hn0 : l0 * 8 ≤ 140737488351232) (r0 : 1 ≤ room) (r1 : room ≤ 65536) :
    Calls Try.prog 7 #[.int .i64 room, .slice a0 l0 p0] W fun e w' => e = .returned (.bool true) ∧ Below W.heap.size W w' := by
  obtain ⟨i0, hi, hz0, hz1, hz2⟩ := info_parts info5
  have HS := hid hs
  have HL := hid hl
  clear hs hl
  go_enter Try.func7, Try.ntmps7
  go_wp2_with fail
  refine (new_good room W r0 r1).mono ?_
  rintro e w1 ⟨rfl, hb1, hq1, hlt1⟩
  have IV0 := hid (show Inv W w1 W.heap.size nilS nilS room s0 from ⟨hb1, ok0 r0 r1, (by
    rintro i (rfl | h | h)
    · exact Nat.le_refl _
    · cases h
    · cases h), hq1⟩)
  clear hb1 hq1
  generalize hrb : W.heap.size = rb at *
  have HRB := hid hrb
  clear hrb
  go_wp2
  go_loopw [38] (fun v wr => ∃ k : Nat, ∃ d m : Sv, ∃ s : S, k ≤ l0 ∧ v = .int .i64 k ∧ s.ms.length ≤ k * 4096 ∧ KS s ∧ Inv W wr rb d m room s) (fun i _ => l0 - (intOf i).toNat)
  case atStart => exact ⟨0, nilS, nilS, s0, Nat.zero_le _, rfl, Nat.zero_le _, ks0, IV0.out⟩
  case round =>
    obtain ⟨k, d, m, s, hk, rfl, hlen, hks, hiv⟩ := hrel
    have IR := hid hiv
    have KR := hid hks
    have LR := hid hlen
    clear hiv hks hlen IV0
    generalize hws : wr = ws at *
    clear hws
    by_cases hkn : k < l0
    · obtain ⟨b, off, rfl, hcl⟩ := (HS.out.q IR.out.q) (by intro e; have := HL.out; rw [e] at this; simp at this; omega)
      have dk := hcl k (by rw [HL.out]; exact hkn)
      have hlt' : (k : Int) < (l0 : Int) := by omega
      have hwk : IntKind.i64.wrap ((k : Int) + 1) = ((k + 1 : Nat) : Int) := by rw [IntKind.wrap_i64]; omega
      clear hcl
      generalize zs.getD k 0 = n at *
      by_cases hn1 : n < 0
      · have b1 : decide (n < 0) = true := by simp [hn1]
        clear hn1
        go_wp2
        go_roundw
        case rel => exact ⟨k + 1, d, m, s, by omega, by go_num, by have := LR.out; omega, KR.out, IR.out⟩
        case measure => simp [intOf]; omega
      · have b1 : decide (n < 0) = false := by simp; omega
        by_cases hn2 : (4096 : Int) < n
        · have b2 : decide ((4096 : Int) < n) = true := by simp [hn2]
          clear hn1
          go_wp2
          go_roundw
          case rel => exact ⟨k + 1, d, m, s, by omega, by go_num, by have := LR.out; omega, KR.out, IR.out⟩
          case measure => simp [intOf]; omega
        · have b2 : decide ((4096 : Int) < n) = false := by simp; omega
          obtain ⟨N, rfl⟩ : ∃ N : Nat, n = N := ⟨n.toNat, by omega⟩
          have hN : N ≤ 4096 := by omega
          have HLs := hid (show s.ms.length ≤ 4611686018427387904 - 4096 from by have := LR.out; omega)
          have R1 := hid (room_any rb d m room s ws IR.out.bf IR.out.ok)
          -- the state behind Write
          have hws : wrN room s N ≤ N := wrN_le room s N
          have hE : wrE s = 0 := by unfold wrE; rw [KR.out.fin]; rfl
          have hmin : min (N : Int) (room - ((s.ms.length : Int) - bas s)) = wrN room s N := by
            unfold wrN; rw [KR.out.fin]; have := IR.out.ok.room; simp; omega
          have HW1 := hid (show (wrS room s (List.replicate N 0)).ms.length = s.ms.length + wrN room s N from by rw [wr_len, List.length_replicate])
          have HW2 := hid (bas_wr room s (List.replicate N 0))
          have HW3 := hid (KR.out.wr IR.out.ok (List.replicate N 0))
          have HW4 := hid (ok_wr IR.out.ok (List.replicate N 0))
          have hbl := bas_le s
          obtain ⟨left, hleft⟩ : ∃ left : Int, left = room - ((s.ms.length : Int) - bas s) := ⟨_, rfl⟩
          rw [← hleft] at R1 hmin
          have HWR := hid (show ∀ (g : Nat) (w : World), Bf w rb d m room s → Seg w (some ⟨g, 0, none⟩) (List.replicate N 0) → ¬ Fp rb d m g → Calls Try.prog 18 #[.pointer (some ⟨rb, 0, none⟩), .slice (some ⟨g, 0, none⟩) N N] w fun e w' => ∃ d' m', e = .returned (.tuple #[.int .i64 (wrN room s N), .int .i64 0]) ∧ Bf w' rb d' m' room (wrS room s (List.replicate N 0)) ∧ Keep (Fp rb d m) w w' ∧ (∀ b, Fp rb d' m' b → Fp rb d m b ∨ w.heap.size ≤ b) from fun g w h1 h2 h3 => by
            have := write_any rb d m room s (some ⟨g, 0, none⟩) N N (List.replicate N 0) w h1 IR.out.ok h2 (by simp) (Nat.le_refl _) (by omega) (fun _ b hb => by
              have e' : g = b := by simpa [blk] using hb
              rw [← e']; exact h3)
            rw [hE] at this
            exact this)
          generalize hs1 : wrS room s (List.replicate N 0) = s1 at *
          generalize hK : wrN room s N = K at *
          have HLe := hid hleft
          have hl1 : left - K = room - ((s1.ms.length : Int) - bas s1) := by rw [HW1.out, HW2.out, hleft]; omega
          have hle1 : 0 ≤ left := by have := IR.out.ok.room; omega
          have hle2 : left ≤ 65536 := by have := bas_le s; omega
          have hwl : IntKind.i64.wrap (left - (K : Int)) = left - K := by rw [IntKind.wrap_i64]; omega
          have hl1b : (s1.ms.length : Int) - bas s1 ≤ room := by have := HW4.out.room; omega
          have HL1 := hid (show s1.ms.length ≤ 4611686018427387904 from by have := HLs.out; have := HW1.out; omega)
          have HLB := hid (show s1.ms.length ≤ (k + 1) * 4096 from by have := HW1.out; have := LR.out; omega)
          have hbl1 := bas_le s1
          have hww : IntKind.i64.wrap ((s1.ms.length : Int) - (bas s1 : Int)) = (s1.ms.length : Int) - bas s1 := by rw [IntKind.wrap_i64]; have := HL1.out; omega
          have hgt : decide (room < (s1.ms.length : Int) - (bas s1 : Int)) = false := by simp; omega
          have HL1E := hid hl1
          have HDN := hid hleft
          clear hs1 hK hE hbl hbl1 hl1 hl1b hleft hn1 hn2 HW1 HW2
          go_wp2_with fail
          refine R1.out.mono ?_
          rintro e w2 ⟨rfl, q2, rfl⟩
          have I2 := hid (IR.out.go ((Q.refl ws).drewN q2))
          generalize ws.drewN q2 = w2 at *
          go_wp2_with (at_make; refine wpList_make_full _ rfl _ _ 27 rfl w2.heap.size 5 i0 (.int .u8 0) 1 Try.underlying27 hi hz0 hz1 .i64 .i64 _ _ N rfl rfl rfl rfl (by rw [hz2]; omega) (by unfold maxLen; omega) (Nat.le_refl _) ?_; intro w3 hown hgr)
          rw [made_zero] at hown
          have HSZ := hid (seg_zeros hown)
          have I3 := hid (I2.out.go ((Q.refl w2).grown hgr))
          have HGN := hid (show ¬ Fp rb d m w2.heap.size from fun e => by have := I2.out.bf.lt _ e; omega)
          clear hown hgr
          go_wp2_with fail
          refine (HWR.out _ w3 I3.out.bf HSZ.out HGN.out).mono ?_
          rintro e w4 ⟨d1, m1, rfl, hb4, hk4, hf4⟩
          have I4 := hid (I3.out.step hb4 HW4.out hk4 hf4)
          clear hb4 hk4 hf4
          have hkk : ((K : Int) != (K : Int)) = false := by simp
          go_wp2_with fail
          refine (room_any rb d1 m1 room s1 w4 I4.out.bf I4.out.ok).mono ?_
          rw [← HL1E.out]
          rintro e w5 ⟨rfl, q5, rfl⟩
          have I5 := hid (I4.out.go ((Q.refl w4).drewN q5))
          have hkk2 : (left - (K : Int) != left - (K : Int)) = false := by simp
          generalize w4.drewN q5 = w5 at *
          go_wp2_with fail
          refine (written_any rb d1 m1 room s1 w5 I5.out.bf I5.out.ok HL1.out).mono ?_
          rintro e w6 ⟨rfl, q6, rfl⟩
          have I6 := hid (I5.out.go ((Q.refl w5).drewN q6))
          generalize w5.drewN q6 = w6 at *
          go_wp2_with fail
          refine (base_any rb d1 m1 room s1 w6 I6.out.bf).mono ?_
          rintro e w7 ⟨rfl, rfl⟩
          go_wp2_with fail
          refine (next_any rb d1 m1 room s1 (N : Int) 1099511627776 w6 I6.out.bf I6.out.ok HL1.out).mono ?_
          rintro e w7 ⟨D, rfl, hb7, hr7, hD7, hk7⟩
          have hDn : D.n = nxN s1 (N : Int) 1099511627776 := by rw [← hr7.len, nx_len I6.out.ok]
          have I7 := hid (I6.out.step hb7 (ok_nx I6.out.ok _ _) hk7 (fun i h => .inl h))
          clear hb7 hr7 hD7 hk7
          rw [hDn]
          by_cases hz : nxN s1 (N : Int) 1099511627776 = 0
          · obtain ⟨g1, g2⟩ := HW3.out.none hz
            rw [g1] at I7
            rw [g2]
            clear g1 g2 hz hDn
            go_wp2
            go_roundw
            case rel => exact ⟨k + 1, d1, m1, s1, by omega, by go_num, HLB.out, HW3.out, I7.out⟩
            case measure => simp [intOf]; omega
          · obtain ⟨g1, g2, g3, g4, g5, g6⟩ := HW3.out.some HW4.out hz
            have hM := nxN_most s1 (N : Int) 1099511627776
            have HOA := hid (ok_tu (ok_nx HW4.out (N : Int) 1099511627776) true (s1.sent : Int) (nxN s1 (N : Int) 1099511627776 : Int) false)
            have HBA := hid (g4.bas HOA.out)
            have HBS := hid (HW3.out.bas HW4.out)
            have HTE := hid (tu_ok (ack := true) g3).1
            have hnl : (nxS s1 (N : Int) 1099511627776).ms.length = s1.ms.length := by rw [nxS_ms, rg_len]
            have AK := hid (fun w h => ack_any rb d1 m1 room (nxS s1 (N : Int) 1099511627776) (s1.sent : Int) (nxN s1 (N : Int) 1099511627776 : Int) false w h (ok_nx HW4.out (N : Int) 1099511627776) (by rw [hnl]; exact HL1.out) (by omega))
            rw [g1, g2]
            have HG4 := hid g4
            have HG5 := hid g5
            have HG6 := hid g6
            generalize nxS s1 (N : Int) 1099511627776 = s2 at *
            generalize nxN s1 (N : Int) 1099511627776 = M at *
            have hM' : M ≤ 4096 := by omega
            have hw9 : IntKind.i64.wrap (left - (K : Int) + (M : Int)) = left - K + M := by rw [IntKind.wrap_i64]; omega
            have HRE := hid (show room - (((tuS s2 true (s1.sent : Int) (M : Int) false).ms.length : Int) - (bas (tuS s2 true (s1.sent : Int) (M : Int) false) : Int)) = left - K + M from by
              rw [HBA.out, HG5.out, HG6.out, HL1E.out, HBS.out]; omega)
            have hkk3 : (left - (K : Int) + (M : Int) != left - (K : Int) + (M : Int)) = false := by simp
            clear g1 g2 g3 g4 g5 g6 hz hDn hM hnl
            go_wp2_with fail
            refine (AK.out w7 I7.out.bf).mono ?_
            rintro e w8 ⟨d2, m2, rfl, hb8, hk8, hf8⟩
            rw [HTE.out]
            have I8 := hid (I7.out.step hb8 HOA.out hk8 (fun i h => .inl (hf8 i h)))
            clear hb8 hk8 hf8
            go_wp2_with fail
            refine (room_any rb d2 m2 room _ w8 I8.out.bf I8.out.ok).mono ?_
            rw [HRE.out]
            rintro e w9 ⟨rfl, q9, rfl⟩
            have I9 := hid (I8.out.go ((Q.refl w8).drewN q9))
            generalize w8.drewN q9 = w9 at *
            go_wp2
            go_roundw
            case rel => exact ⟨k + 1, d2, m2, _, by omega, by go_num, by rw [HG6.out]; exact HLB.out, HG4.out, I9.out⟩
            case measure => simp [intOf]; omega
    · obtain rfl : k = l0 := by omega
      go_wp2_with fail
      refine (awake_any ws).mono ?_
      rintro e w7 ⟨rfl, hq7⟩
      have Q7 := hid (IR.out.q.trans hq7)
      clear hq7
      go_wp2
      go_ret
      exact ⟨rfl, Q7.out⟩

theorem walk (room : Int) (a0 : Option Addr) (l0 p0 : Nat) (zs : List Int) (hl : zs.length = l0) (hs : SegN W a0 zs) (hn0 : l0 * 8 ≤ 140737488351232) :
    Calls Try.prog 7 #[.int .i64 room, .slice a0 l0 p0] W fun e w' => e = .returned (.bool true) ∧ Below W.heap.size W w' := by
  by_cases hb : 1 ≤ room ∧ room ≤ 65536
  · exact walk_good room a0 l0 p0 zs hl hs hn0 hb.1 hb.2
  · exact walk_bad room a0 l0 p0 hb

set_option maxRecDepth 100000 in
theorem lifted (os : Os) (started : os.Started) (H : Type) (enc : TypeId × Value → H) :
    ReturnsInHanded {} Try.checked os 7 .any (Rows.sendqKeepsSpec.pre6 enc Try.prog Try.f7 Rows.sendqKeepsRow.domain false) (Rows.sendqKeepsSpec.post enc Try.prog Try.f7 false true false false) := by
  refine returnsInHanded_of_change_sized (C := Try.checked) own_knob started (by kernel_rfl) Try.func7
    (ChangeSpec.witness6 (enc := enc) (C := Try.checked) false ⟨#[], #[.int .i64 0, .slice none 0 0], []⟩ 8 (by kernel_rfl) (by kernel_rfl) (by kernel_rfl) (by kernel_rfl)) ?_
  intro W base args ds gs before hval0 hW hcnd hsz0 _
  have hval : ∀ (j : Nat) t v, Try.f7.params[j]? = some t → args[j]? = some v → Value.okWide Try.prog W .any base t v := hval0
  have hsz : (DataW.weightsEach Try.prog (Try.f7.params.toList ++ Rows.sendqKeepsSpec.plain.varTypes Try.prog) (ds ++ gs)).all (· ≤ reachBytes) = true := hsz0
  have hW' := hW
  obtain ⟨p, q, hA0, hV, rfl, hfz, hnd⟩ := hW
  have hA : DataW.TrodAll enc Try.prog W 0 (fun _ => true) true Try.f7.params.toList args.toList ds p := hA0
  rw [Try.params7] at hA hval hsz
  obtain ⟨v0, vs0, d0, ds0, p0, q0, hargs, rfl, rfl, h0, r0⟩ := trodAll_cons hA
  obtain ⟨v1, vs1, d1, ds1, p1, q1, rfl, rfl, rfl, h1, r1⟩ := trodAll_cons r0
  obtain ⟨rfl, rfl, rfl⟩ := trodAll_nil r1
  obtain rfl : args = #[v0, v1] := by cases args; simp_all
  obtain ⟨rfl, rfl⟩ := trodVars_none hV
  obtain ⟨a0, rfl, rfl, rfl, w0⟩ := open_int Try.underlying3 (hval 0 3 v0 rfl rfl) h0
  obtain ⟨a1, len1, cap1, rfl⟩ := okWide_slice Try.underlying34 (hval 1 34 v1 rfl rfl)
  have k1 := h1
  have lt1 : ∀ x ∈ p1, x.block < W.heap.size := by obtain ⟨m, hm⟩ := k1; exact DataW.trod_lt m _ _ _ hm
  obtain ⟨z1, zl1, zs1, zb1, zc1, ze1, zd1⟩ := open_nums h1
  have zn1 := len_le_nums hsz (j := 1) rfl rfl zd1
  clear hA0 hval0
  refine (walk a0 a1 len1 cap1 z1 zl1 zs1 zn1).mono fun e W' ⟨he, bel⟩ => ?_
  subst he
  exact ⟨_, rfl, _, _, _, [], _, [], hW', trodAll_mk1 (shut_bool Try.underlying4 _), (trodAll_cons_mk (shut_int Try.underlying3 w0) (trodAll_cons_mk (Below.trod laid_out (by kernel_rfl) (of_decide_eq_true (by kernel_rfl)) k1 bel lt1) trodAll_mk0)), rfl, bel.frame _, fun h => by cases h⟩

theorem over : Rows.sendqKeepsRow.holds Try.pinned (OpenSpec.ofChange Rows.sendqKeepsSpec) :=
  OpenClaim.holds_of_wide 7 Try.f7 rfl rfl rfl rfl rfl rfl rfl ⟨rfl, rfl, rfl, rfl, rfl⟩ rfl rfl rfl rfl rfl (by kernel_rfl) Try.func7 (by kernel_rfl)
    (of_decide_eq_true (by kernel_rfl)) (by unfold Func.isWrapper; first | (rw [if_pos (by decide +kernel)]; kernel_rfl) | (rw [if_neg (by decide +kernel)]; exact ⟨rfl, rfl⟩))
    (fun os started H enc _ => lifted os started H enc)

end Go.Proofs.Ytppemfdoogmeeaa.sendqKeeps
namespace Go.Proofs.Ytppemfdoogmeeaa

/-- The statement. -/
theorem sendqKeeps_holds : Rows.SendqKeepsSaid := sendqKeeps.over
#print axioms sendqKeeps_holds
end Go.Proofs.Ytppemfdoogmeeaa
