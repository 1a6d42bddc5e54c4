/-
  Proved: for every int and every script of calls the law turnpikelaw04.SendqLimits returns true, and its arguments read as they did. No condition beyond the form's own reach.
-/
import Derived.Test.YtppemfdoogmeeaaRows
import Derived.Test.YtppemfdoogmeeaaAwake
import Derived.Test.YtppemfdoogmeeaaRim
import Derived.Test.YtppemfdoogmeeaaThr
import Derived.Test.YtppemfdoogmeeaaArrB
import Derived.Test.YtppemfdoogmeeaaLimM
import Derived.WalkKit
import Derived.Deep.Cut
import Derived.Deep.CutRange
import Derived.ProofKit
import Derived.OpenShut
import Derived.ShutString
import Derived.ChangeOld
import Derived.Below
import Derived.SizedLaws
namespace Go.Proofs.Ytppemfdoogmeeaa.sendqLimits
open Go.ChangeShapes Go.WideShapes Go.ChangeAt Go.RowKit
open Go.ChangeMaps (open_string shut_string)
set_option linter.unusedVariables false

variable {W : World}

/-- What holds at the head of the loop. -/
def LmInv (W : World) (rb : Nat) (room : Int) (l0 : Nat) (kv gvv : Value) (wr : World) : Prop :=
  ∃ (k : Nat) (s : S) (d m gv : Sv) (gs : List Bool), k ≤ l0 ∧ kv = .int .i64 k ∧ gvv = .slice gv.a gv.n gv.c ∧ Inv3 W wr rb d m gv room s gs ∧ LS gs s
/-- What holds behind the switch. -/
def LmMid (W : World) (rb : Nat) (room : Int) (gvv : Value) (wr : World) : Prop :=
  ∃ (s : S) (d m gv : Sv) (gs : List Bool), gvv = .slice gv.a gv.n gv.c ∧ Inv3 W wr rb d m gv room s gs ∧ LS gs s
/-- .. of the loop that makes the bools of the bytes that were written. -/
def LwInv (W : World) (rb : Nat) (d m : Sv) (room : Int) (s : S) (gs : List Bool) (n : Nat) (jv gvv : Value) (wr : World) : Prop :=
  ∃ (j : Nat) (gv : Sv), j ≤ n ∧ jv = .int .i64 j ∧ gvv = .slice gv.a gv.n gv.c ∧ Inv3 W wr rb d m gv room s (gs ++ List.replicate j false)
/-- .. of the loop over a chunk. -/
def LnInv (W : World) (rb : Nat) (d m gv : Sv) (room : Int) (sn : S) (gs : List Bool) (P dn : Nat) (bx : Nat) (jv : Value) (wr : World) : Prop :=
  ∃ (j : Nat) (gs' : List Bool), j ≤ dn ∧ jv = .int .i64 j ∧ Inv3 W wr rb d m gv room sn gs' ∧ gs'.length = gs.length ∧ (∀ q, P ≤ q → q < P + j → gs'.getD q false = true) ∧ (∀ q, q < P ∨ P + j ≤ q → gs'.getD q false = gs.getD q false)
/-- .. of the loop over a piece that is lost. -/
def LlInv (W : World) (rb : Nat) (d m gv : Sv) (room : Int) (sn : S) (gs : List Bool) (A N : Nat) (bx : Nat) (z : Cl) (jv : Value) (wr : World) : Prop :=
  ∃ (j : Nat) (gs' : List Bool), A ≤ j ∧ j ≤ A + N ∧ jv = .int .i64 j ∧ Inv3 W wr rb d m gv room sn gs' ∧ Thr wr bx z ∧ gs'.length = gs.length ∧ (∀ q, A ≤ q → q < j → gs'.getD q false = false) ∧ (∀ q, q < A ∨ j ≤ q → gs'.getD q false = gs.getD q false)

set_option maxHeartbeats 1000000 in
set_option maxRecDepth 100000 in
theorem walk_bad (room : Int) (a0 : Option Addr) (l0 p0 : Nat) (hb : ¬ (1 ≤ room ∧ room ≤ 65536)) : Calls Try.prog 6 #[.int .i64 room, .slice a0 l0 p0] W fun e w' => e = .returned (.bool true) ∧ Below W.heap.size W w' := by
  have HN := hid hb
  by_cases h1 : room < 1
  · have b1 : decide (room < 1) = true := by simp [h1]
    clear hb
    go_enter Try.func6, Try.ntmps6
    go_wp2_with fail
    refine (new_bad room W HN.out).mono ?_
    rintro e w1 ⟨rfl, rfl⟩
    go_wp2_with fail
    refine (awake_any _).mono ?_
    rintro e w7 ⟨rfl, hq7⟩
    have Q7 := hid hq7
    clear hq7
    go_wp2
    go_ret
    exact ⟨rfl, Q7.out⟩
  · have b1 : decide (room < 1) = false := by simp [h1]
    have b3 : (65536 : Int) < room := by omega
    have b2 : decide ((65536 : Int) < room) = true := by simp; omega
    clear hb
    go_enter Try.func6, Try.ntmps6
    go_wp2_with fail
    refine (new_bad room W HN.out).mono ?_
    rintro e w1 ⟨rfl, rfl⟩
    go_wp2_with fail
    refine (awake_any _).mono ?_
    rintro e w7 ⟨rfl, hq7⟩
    have Q7 := hid hq7
    clear hq7
    go_wp2
    go_ret
    exact ⟨rfl, Q7.out⟩

set_option maxHeartbeats 16000000 in
set_option maxRecDepth 100000 in
theorem walk_good (room : Int) (a0 : Option Addr) (l0 p0 : Nat) (z0 : Nat → Cl) (g0 : ∀ i, i < l0 → Good W (z0 i)) (s0' : SegO W a0 l0 z0)
    (n0 : l0 * 56 ≤ 140737488351232 ∧ ∀ i, i < l0 → (z0 i).dn ≤ 140737488351232) (r0 : 1 ≤ room) (r1 : room ≤ 65536) :
    Calls Try.prog 6 #[.int .i64 room, .slice a0 l0 p0] W fun e w' => e = .returned (.bool true) ∧ Below W.heap.size W w' := by
  have G0 := hid g0
  have S0 := hid s0'
  have N0 := hid n0
  have hl0 := n0.1
  clear g0 s0' n0
  go_enter Try.func6, Try.ntmps6
  go_wp2_with fail
  refine (new_good room W r0 r1).mono ?_
  rintro e w1 ⟨rfl, hb1, hq1, hlt1⟩
  have IV0 := hid (show Inv3 W w1 W.heap.size nilS nilS nilS room s0 [] from ⟨hb1, ok0 r0 r1, sub_nil _ _ _, (fun b hb => by cases hb), (by
    rintro i (rfl | h | h)
    · exact Nat.le_refl _
    · cases h
    · cases h), (fun b hb => by cases hb), hq1⟩)
  clear hb1 hq1
  generalize hrb : W.heap.size = rb at *
  have HRB := hid hrb
  clear hrb
  go_wp2
  go_loopw [41, 7] (fun kv gvv wr => LmInv W rb room l0 kv gvv wr) (fun kv _ _ => l0 - (intOf kv).toNat)
  case atStart => exact ⟨0, s0, nilS, nilS, nilS, [], Nat.zero_le _, rfl, rfl, IV0.out, ls0⟩
  case round =>
    obtain ⟨k, s, d, m, gv, gs, hk, rfl, rfl, hiv, hls⟩ := hrel
    have IR := hid hiv
    have LR := hid hls
    clear hiv hls IV0
    generalize hws : wr = ws at *
    clear hws
    by_cases hkn : k < l0
    · obtain ⟨b, off, rfl, hcl⟩ := (S0.out.q IR.out.q) (by omega)
      obtain ⟨d0, d1, d2, d3, d4⟩ := hcl k hkn
      have hlt' : (k : Int) < (l0 : Int) := by omega
      have hwk : IntKind.i64.wrap ((k : Int) + 1) = ((k + 1 : Nat) : Int) := by rw [IntKind.wrap_i64]; omega
      have GG := hid (G0.out k hkn)
      have GN := hid (N0.out.2 k hkn)
      clear hcl
      generalize z0 k = z at *
      have QX := hid ((Q.refl ws).alloc (.cells #[.int .i64 z.kd, .int .i64 z.p, .int .i64 z.q, .slice z.da z.dn z.dc, .bool z.f] 38))
      have X1 := hid (show Thr (ws.alloc (.cells #[.int .i64 z.kd, .int .i64 z.p, .int .i64 z.q, .slice z.da z.dn z.dc, .bool z.f] 38)) ws.heap.size z from heap_alloc_new ws _)
      have IX := hid (IR.out.go QX.out)
      have XF := hid (show ¬ Fp rb d m ws.heap.size from fun h => by have := IR.out.bf.lt _ h; omega)
      have XG := hid (show ∀ b, blk gv.a = some b → b ≠ ws.heap.size from fun b hb => by have := IR.out.rg.lt b hb; omega)
      have ZF := hid (show z.zs ≠ [] → ∀ b, blk z.da = some b → b < W.heap.size from fun hne b hb => by
        obtain ⟨b', o', e, hc⟩ := GG.out.seg hne
        have e' : b' = b := by rw [e] at hb; simpa [blk] using hb
        have h1 := lt_of_cell (hc 0 (by cases hz : z.zs with | nil => exact absurd hz hne | cons x r => simp))
        omega)
      have HLS := hid (show s.ms.length ≤ 65536 from by have h1 := IR.out.ok.room; have h2 := IR.out.ok.r1; have h3 := LR.out.bas; omega)
      have HGL := hid (show gv.n = s.ms.length from by rw [← IR.out.rg.len]; exact LR.out.gl)
      have x0 := X1.out.c0
      have bb : ∀ n : Int, z.kd ≠ n → (z.kd == n) = false := fun n hn => by simpa using hn
      go_upto_region 8 with fail
      generalize ws.alloc (.cells #[.int .i64 z.kd, .int .i64 z.p, .int .i64 z.q, .slice z.da z.dn z.dc, .bool z.f] 38) = wx at *
      go_cut [46] from 42 to 208 (fun v wc => v = .int .i64 z.kd ∧ wc = wx)
      case first =>
        go_wp2_with fail
        go_meet
        case rel => exact ⟨rfl, by first | rfl | trivial⟩
      case rest =>
      obtain ⟨rfl, hwc⟩ := hcut
      replace hwc := hwc.symm
      subst hwc
      refine ‹∀ (a : Act) (w : World), Code.wp Try.prog (Code.block 2 _) _ a w → _› _ _ ?_
      go_cut [7, 10, 11, 12, 13, 14, 15, 16, 17, 18] from 47 to 208 (fun gvv _ _ _ _ _ _ _ _ _ wc => LmMid W rb room gvv wc)
      case first =>
        by_cases h1 : z.kd = 1
        · as_aux_lemma =>
          have e1 : (z.kd == 1) = true := by rw [h1]; rfl
          clear bb h1
          have x3 := X1.out.c3
          go_wp2_with fail
          refine (copy_any z.da z.dn z.dc z.zs wx GG.out.len (by have := GN.out; omega) (GG.out.seg.q IX.out.q)).mono ?_
          rintro e w2 ⟨g, rfl, hq2, hs2, hg⟩
          have I2 := hid (IX.out.go hq2)
          have NP := hid (show ¬ Fp rb d m g from fun e => by have := IX.out.bf.lt g e; omega)
          have HSG := hid hs2
          clear hq2 hs2 hg x0 x3
          go_wp2_with fail
          refine (write_any rb d m room s (some ⟨g, 0, none⟩) z.dn z.dn z.zs w2 I2.out.bf I2.out.ok HSG.out.seg GG.out.len (Nat.le_refl _) (by have := GN.out; omega) (fun _ b hb e => by
            have e' : g = b := by simpa [blk] using hb
            exact NP.out (by rw [e']; exact e))).mono ?_
          rintro e w3 ⟨d1', m1', rfl, hb3, hk3, hf3⟩
          have I3 := hid (I2.out.step hb3 (ok_wr I2.out.ok z.zs) hk3 hf3)
          have LW := hid (LR.out.wr room z.zs)
          rw [GG.out.len] at LW
          have hn6 : wrN room s z.dn ≤ 65536 := by
            have h1 := I2.out.ok.r1
            have h2 := bas_le s
            unfold wrN; split
            · omega
            · omega
          clear hb3 hk3 hf3 I2 HSG NP
          generalize wrN room s z.dn = n at *
          generalize wrE s = e5' at *
          generalize wrS room s z.zs = s5 at *
          have HGG := hid (show gs.length ≤ 65536 from by rw [LR.out.gl]; exact HLS.out)
          go_wp2
          go_loopw [58, 7] (fun jv gvv wr => LwInv W rb d1' m1' room s5 gs n jv gvv wr) (fun jv _ _ => n - (intOf jv).toNat)
          case atStart => exact ⟨0, gv, Nat.zero_le _, rfl, rfl, by simpa using I3.out⟩
          case round =>
            obtain ⟨j, gv2, hj, rfl, rfl, hij⟩ := hrel
            by_cases hlt : j < n
            · have hltj : (j : Int) < (n : Int) := by omega
              have hwi : IntKind.i64.wrap ((j : Int) + 1) = ((j + 1 : Nat) : Int) := by rw [IntKind.wrap_i64]; omega
              have hgn : gv2.n ≤ 1099511627776 := by have := hij.rg.len; rw [List.length_append, List.length_replicate] at this; have := HGG.out; omega
              obtain ⟨gv3, w5, hr5, hrow5, hk5, hb5⟩ := rowb_one false hij.rg hgn
              have I5 := hid (show Inv3 W w5 rb d1' m1' gv3 room s5 (gs ++ List.replicate (j + 1) false) from by rw [List.replicate_succ', ← List.append_assoc]; exact hij.bool hrow5 hk5 hb5)
              clear hij hrow5 hk5 hb5 hgn hj hlt
              go_wp2_with (at_builtin; refine Lib.wpList_append_run _ rfl _ _ _ _ rfl _ _ rfl rfl _ _ hr5 ?_)
              go_roundw
              case rel => exact ⟨j + 1, gv3, by omega, by go_num, rfl, I5.out⟩
              case measure => simp [intOf]; omega
            · have hge : decide ((n : Int) < (n : Int)) = false := by simp
              obtain rfl : j = n := by omega
              have I5 := hid hij
              have L5 := hid LW.out
              clear hij hj hlt
              generalize hws2 : wr = w5 at *
              clear hws2
              generalize gs ++ List.replicate j false = gs5 at *
              go_wp2_with fail
              go_meet
              case rel => exact ⟨s5, d1', m1', gv2, gs5, rfl, I5.out, L5.out⟩
        · have e1 := bb 1 h1
          by_cases h2 : z.kd = 2
          · have e2 : (z.kd == 2) = true := by rw [h2]; rfl
            clear bb h1 h2
            go_wp2_with fail
            refine (finish_any rb d m room s wx IX.out.bf).mono ?_
            rintro e w5 ⟨rfl, hb5, hk5⟩
            have I5 := hid (IX.out.step hb5 (ok_fi IX.out.ok) (hk5.mono (fun i _ e => .inl e)) (fun i h => .inl h))
            have L5 := hid LR.out.fi
            clear hb5 hk5
            generalize wrE s = e5' at *
            generalize fiS s = s5 at *
            go_wp2_with fail
            go_meet
            case rel => exact ⟨s5, d, m, gv, gs, rfl, I5.out, L5.out⟩
          · have e2 := bb 2 h2
            by_cases h3 : z.kd = 3
            · as_aux_lemma =>
              have e3 : (z.kd == 3) = true := by rw [h3]; rfl
              clear bb h1 h2 h3
              have x1 := X1.out.c1
              have x2 := X1.out.c2
              go_wp2_with fail
              refine (sent_any rb d m room s wx IX.out.bf).mono ?_
              rintro e w4 ⟨rfl, rfl⟩
              go_wp2_with fail
              refine (next_any rb d m room s z.p z.q wx IX.out.bf IX.out.ok (by have := HLS.out; omega)).mono ?_
              rintro e w5 ⟨D, rfl, hb5, hr5, hD5, hk5⟩
              have hDn : D.n = nxN s z.p z.q := by rw [← hr5.len, nx_len IX.out.ok]
              rw [hDn]
              have I5a := hid (IX.out.step hb5 (ok_nx IX.out.ok z.p z.q) hk5 (fun i h => .inl h))
              have X2 := hid (X1.out.keep hk5 XF.out)
              have y1 := X2.out.c1
              have y2 := X2.out.c2
              clear hb5 hr5 hD5 hk5 x0 x1 x2
              cases hok : nxO s z.p z.q
              · obtain ⟨p1, p2, p3, p4⟩ := ls_none hok
                rw [p4] at I5a
                rw [p1, p2, p3]
                clear p1 p2 p3 p4 hok hDn
                go_wp2
                go_roundw
                case rel => exact ⟨k + 1, s, d, m, gv, gs, by omega, by go_num, rfl, I5a.out, LR.out⟩
                case measure => simp [intOf]; omega
              · obtain ⟨c1, c2, c3, c4⟩ := ls_chunk LR.out IX.out.ok z.p z.q hok
                have LNX := hid (fun gs' hl h1 h2 => LR.out.nx IX.out.ok z.p z.q (gs' := gs') hl h1 h2)
                have C4 := hid c4
                have C3 := hid c3
                clear hok c4 c3
                generalize nxS s z.p z.q = sn at *
                generalize nxP s z.p z.q = P at *
                generalize nxN s z.p z.q = K at *
                generalize nxF s z.p z.q = F at *
                obtain ⟨da, dn, dc⟩ := D
                simp only at hDn
                subst hDn
                have C1 := hid (show P + dn ≤ gv.n from by rw [HGL.out]; exact c1)
                have C2 := hid c2
                have HGB := hid (show gv.n ≤ 65536 from by rw [HGL.out]; exact HLS.out)
                clear c1 c2
                go_upto_region 23 with fail
                go_cut [135] from 47 to 208 (fun v wc => v = .bool false ∧ wc = w5)
                case first =>
                  have hcc := C1.out
                  have hgb := HGB.out
                  obtain ⟨T, hT⟩ : ∃ T, T = P + dn := ⟨_, rfl⟩
                  have b1 : decide ((P : Int) < 0) = false := by simp
                  have b2 : decide ((gv.n : Int) < (P : Int)) = false := by simp; omega
                  have b2' : decide (gv.n < P) = false := by simp; omega
                  have hw1 : IntKind.i64.wrap ((gv.n : Int) - (P : Int)) = (gv.n : Int) - P := by rw [IntKind.wrap_i64]; omega
                  have b3 : decide ((gv.n : Int) - (P : Int) < (dn : Int)) = false := by simp; omega
                  have b4 : decide (max z.p 0 < (dn : Int)) = false := by have := C2.out; simp; omega
                  have hwT : IntKind.i64.wrap ((P : Int) + (dn : Int)) = T := by rw [IntKind.wrap_i64]; omega
                  have HT := hid hT
                  clear hT hcc hgb
                  by_cases hz : dn = 0
                  · have b6 : decide ((0 : Int) < (dn : Int)) = false := by simp; omega
                    have b6' : decide (0 < dn) = false := by simp; omega
                    clear hz
                    by_cases h7 : max (s.sent : Int) z.q < (T : Int)
                    · have b7 : decide (max (s.sent : Int) z.q < (T : Int)) = true := by simp only [decide_eq_true_eq]; exact h7
                      clear h7
                      go_wp2_with fail
                      go_meet
                      case rel => exact ⟨by first | rfl | trivial, by first | rfl | trivial⟩
                    · have b7 : decide (max (s.sent : Int) z.q < (T : Int)) = false := by simp only [decide_eq_false_iff_not]; exact h7
                      clear h7
                      go_wp2_with fail
                      go_meet
                      case rel => exact ⟨by first | rfl | trivial, by first | rfl | trivial⟩
                  · have b7 : decide (max (s.sent : Int) z.q < (T : Int)) = false := by
                      have := C3.out hz
                      rw [← HT.out] at this
                      simp only [decide_eq_false_iff_not]; omega
                    clear hz
                    go_wp2_with fail
                    go_meet
                    case rel => exact ⟨by first | rfl | trivial, by first | rfl | trivial⟩
                case rest =>
                  obtain ⟨rfl, hwc⟩ := hcut
                  replace hwc := hwc.symm
                  subst hwc
                  go_wp2
                  go_loopw [138, 17] (fun jv _ wr => LnInv W rb d m gv room sn gs P dn 0 jv wr) (fun jv _ _ => dn - (intOf jv).toNat)
                  case atStart => exact ⟨0, gs, Nat.zero_le _, rfl, I5a.out, rfl, fun q h1 h2 => by omega, fun q _ => rfl⟩
                  case round =>
                    obtain ⟨j, gs', hj, rfl, hij, hlj, hg1, hg2⟩ := hrel
                    have hcc := C1.out
                    have hgb := HGB.out
                    by_cases hjl : j < dn
                    · have hjl' : (j : Int) < (dn : Int) := by omega
                      obtain ⟨p, hp⟩ : ∃ p, p = P + j := ⟨_, rfl⟩
                      have hpg : p < gv.n := by omega
                      have hpg' : (p : Int) < (gv.n : Int) := by omega
                      have hwp : IntKind.i64.wrap ((P : Int) + (j : Int)) = p := by rw [IntKind.wrap_i64]; omega
                      have hwj : IntKind.i64.wrap ((j : Int) + 1) = ((j + 1 : Nat) : Int) := by rw [IntKind.wrap_i64]; omega
                      obtain ⟨g, o, ega, hfz, hc⟩ := rowb_cells hij.rg (show 0 < gv.n by omega)
                      have hcp := hc p hpg
                      rw [hg2 p (by omega), C4.out p (by omega) (by omega)] at hcp
                      have fp := hfz (o + p)
                      have I8 := hid (hij.set ega hpg true)
                      have hgl' : gs'.length = gv.n := hij.rg.len
                      have G8 := hid (show (gs'.set p true).length = gs.length ∧ (∀ q, P ≤ q → q < P + (j + 1) → (gs'.set p true).getD q false = true) ∧ (∀ q, q < P ∨ P + (j + 1) ≤ q → (gs'.set p true).getD q false = gs.getD q false) from by
                        refine ⟨by rw [List.length_set]; exact hlj, fun q h1 h2 => ?_, fun q h => ?_⟩
                        · rw [getD_set (by omega)]; split
                          · rfl
                          · exact hg1 q h1 (by omega)
                        · rw [getD_set (by omega), if_neg (by omega)]; exact hg2 q (by omega))
                      clear hij hlj hg1 hg2 hfz hc hp hj hjl hcc hgb hgl'
                      obtain ⟨ga, gn, gc⟩ := gv
                      simp only at ega
                      subst ega
                      go_wp2
                      go_roundw
                      case rel => exact ⟨j + 1, _, by omega, by go_num, I8.out, G8.out⟩
                      case measure => simp [intOf]; omega
                    · have hge : decide ((dn : Int) < (dn : Int)) = false := by simp
                      obtain rfl : j = dn := by omega
                      have I5 := hid hij
                      have L5 := hid (LNX.out gs' hlj hg1 hg2)
                      clear hij hlj hg1 hg2 hj hjl hcc hgb
                      generalize hws2 : wr = w6 at *
                      clear hws2
                      go_wp2_with fail
                      go_meet
                      case rel => exact ⟨sn, d, m, gv, gs', rfl, I5.out, L5.out⟩
            · have e3 := bb 3 h3
              by_cases h5 : z.kd = 5
              · as_aux_lemma =>
                have e5 : (z.kd == 5) = true := by rw [h5]; rfl
                clear bb h1 h2 h3 h5
                have x1 := X1.out.c1
                have x2 := X1.out.c2
                have x4 := X1.out.c4
                go_wp2_with fail
                refine (lose_any rb d m room s z.p z.q z.f wx IX.out.bf IX.out.ok (by have := HLS.out; omega) GG.out.q0).mono ?_
                rintro e w5 ⟨d1', m1', rfl, hb5, hk5, hf5⟩
                have I5a := hid (IX.out.step hb5 (ok_tu IX.out.ok false z.p z.q z.f) hk5 (fun i h => .inl (hf5 i h)))
                have X2 := hid (X1.out.keep hk5 XF.out)
                clear hb5 hk5 x0 x1 x2 x4
                cases hT : tuB s z.p z.q z.f
                · rw [(tu_ok (ack := false) hT).1]
                  obtain ⟨h0, h1, h2, _⟩ := tuB_f hT
                  obtain ⟨A, hA⟩ : ∃ A : Nat, z.p = A := ⟨z.p.toNat, by omega⟩
                  obtain ⟨N, hN⟩ : ∃ N : Nat, z.q = N := ⟨z.q.toNat, by omega⟩
                  have LTU := hid (fun gs' hl h1 h2 => LR.out.tu (A := A) (N := N) (f := z.f) (by rw [← hA, ← hN]; exact hT) (gs' := gs') hl h1 h2)
                  rw [← hA, ← hN] at LTU
                  have HA := hid hA
                  have HN := hid hN
                  have C1 := hid (show A + N ≤ gv.n from by rw [HGL.out]; have := IX.out.ok.sent; omega)
                  have HGB := hid (show gv.n ≤ 65536 from by rw [HGL.out]; exact HLS.out)
                  have hmx : max (A : Int) 0 = A := by omega
                  have y1 := X2.out.c1
                  rw [hA] at y1
                  have XW := hid (show ws.heap.size < wx.heap.size from lt_of_block X1.out)
                  clear hT h0 h1 h2 hA hN
                  generalize tuS s false z.p z.q z.f = sn at *
                  go_wp2
                  go_loopw [18] (fun jv wr => LlInv W rb d1' m1' gv room sn gs A N ws.heap.size z jv wr) (fun jv _ => A + N - (intOf jv).toNat)
                  case atStart => exact ⟨A, gs, Nat.le_refl _, by omega, rfl, I5a.out, X2.out, rfl, fun q h1 h2 => by omega, fun q _ => rfl⟩
                  case round =>
                    obtain ⟨j, gs', hAj, hj, rfl, hij, hxj, hlj, hg1, hg2⟩ := hrel
                    have hcc := C1.out
                    have hgb := HGB.out
                    have v1 := hxj.c1
                    rw [HA.out] at v1
                    have v2 := hxj.c2
                    rw [HN.out] at v2
                    have hws1 : IntKind.i64.wrap ((j : Int) - (A : Int)) = (j : Int) - A := by rw [IntKind.wrap_i64]; omega
                    by_cases hjl : j < A + N
                    · have hpg : j < gv.n := by omega
                      have hpg' : (j : Int) < (gv.n : Int) := by omega
                      have b1 : decide ((j : Int) < (gv.n : Int)) = true := by simp; omega
                      have b2 : decide ((j : Int) - (A : Int) < (N : Int)) = true := by simp; omega
                      have hwj : IntKind.i64.wrap ((j : Int) + 1) = ((j + 1 : Nat) : Int) := by rw [IntKind.wrap_i64]; omega
                      obtain ⟨g, o, ega, hfz, hc⟩ := rowb_cells hij.rg (show 0 < gv.n by omega)
                      have hcp := hc j hpg
                      have fp := hfz (o + j)
                      have I8 := hid (hij.set ega hpg false)
                      have hgl' : gs'.length = gv.n := hij.rg.len
                      have X8 := hid (show Thr (wr.setCell ⟨g, o + j, none⟩ (.bool false)) ws.heap.size z from hxj.keep ((Keep.refl (fun q => q = g) wr).setCell g _ _ (.inl rfl)) (fun e => XG.out g (by rw [ega]; rfl) e.symm))
                      have G8 := hid (show (gs'.set j false).length = gs.length ∧ (∀ q, A ≤ q → q < j + 1 → (gs'.set j false).getD q false = false) ∧ (∀ q, q < A ∨ j + 1 ≤ q → (gs'.set j false).getD q false = gs.getD q false) from by
                        refine ⟨by rw [List.length_set]; exact hlj, fun q h1 h2 => ?_, fun q h => ?_⟩
                        · rw [getD_set (by omega)]; split
                          · rfl
                          · exact hg1 q h1 (by omega)
                        · rw [getD_set (by omega), if_neg (by omega)]; exact hg2 q (by omega))
                      have hjl2 : j + 1 ≤ A + N := by omega
                      clear hij hxj hlj hg1 hg2 hfz hc hj hjl hcc hgb hgl'
                      generalize gs'.getD j false = v at *
                      obtain ⟨ga, gn, gc⟩ := gv
                      simp only at ega
                      subst ega
                      go_wp2
                      go_roundw
                      case rel => exact ⟨j + 1, _, by omega, hjl2, by go_num, I8.out, X8.out, G8.out⟩
                      case measure => simp [intOf]; omega
                    · obtain rfl : j = A + N := by omega
                      obtain ⟨J, hJ⟩ : ∃ J, J = A + N := ⟨_, rfl⟩
                      have I5 := hid hij
                      have L5 := hid (LTU.out gs' hlj hg1 hg2)
                      rw [← hJ] at hws1 ⊢
                      have b2 : decide ((J : Int) - (A : Int) < (N : Int)) = false := by simp; omega
                      have hws1' : IntKind.i64.wrap ((J : Int) - (A : Int)) = (J : Int) - A := by rw [IntKind.wrap_i64]; omega
                      generalize hws2 : wr = w6 at *
                      clear hws2 hij hxj hlj hg1 hg2
                      by_cases hJg : J < gv.n
                      · have b1 : decide ((J : Int) < (gv.n : Int)) = true := by simp; omega
                        have b1' : (J : Int) < (gv.n : Int) := by omega
                        clear hJ hJg hj hjl hcc hgb hAj
                        go_wp2_with fail
                        go_meet
                        case rel => exact ⟨sn, d1', m1', gv, gs', rfl, I5.out, L5.out⟩
                      · have b1 : decide ((J : Int) < (gv.n : Int)) = false := by simp; omega
                        have b1' : ¬ J < gv.n := hJg
                        clear hJ hJg hj hjl hcc hgb hAj
                        go_wp2_with fail
                        go_meet
                        case rel => exact ⟨sn, d1', m1', gv, gs', rfl, I5.out, L5.out⟩
                · rw [(tu_bad (ack := false) hT).1]
                  rw [(tu_bad (ack := false) hT).2] at I5a
                  clear hT
                  go_wp2
                  go_roundw
                  case rel => exact ⟨k + 1, s, d1', m1', gv, gs, by omega, by go_num, rfl, I5a.out, LR.out⟩
                  case measure => simp [intOf]; omega
              · have e5 := bb 5 h5
                clear bb h1 h2 h3 h5
                have I5 := hid IX.out
                have L5 := hid LR.out
                go_wp2_with fail
                go_meet
                case rel => exact ⟨s, d, m, gv, gs, rfl, I5.out, L5.out⟩
      case rest =>
        as_aux_lemma =>
        obtain ⟨s5, d5, m5, gv5, gs5, rfl, hi5, hl5⟩ := hcut
        have I5 := hid hi5
        have L5 := hid hl5
        clear hi5 hl5 bb
        generalize hwc5 : wc = w5 at *
        clear hwc5
        have C13 := hid (fun w h => sent_any rb d5 m5 room s5 w h)
        have C12 := hid (fun w h => written_any rb d5 m5 room s5 w h I5.out.ok (by have h1 := I5.out.ok.room; have h2 := I5.out.ok.r1; have h3 := L5.out.bas; omega))
        have C14 := hid (fun w h => base_any rb d5 m5 room s5 w h)
        have C11 := hid (fun w h => room_any rb d5 m5 room s5 w h I5.out.ok)
        have hB5 := L5.out.bas
        have hR5 := I5.out.ok.room
        have hS5 := I5.out.ok.sent
        generalize hLn : (s5).ms.length = Ln at C12 C11 hR5 hS5
        generalize hSn : (s5).sent = Sn at C13 hS5
        rw [hB5] at C14 C11 hR5
        have t1 : decide ((Ln : Int) < (Sn : Int)) = false := by simp; omega
        have t1' : decide (Ln < Sn) = false := by simp; omega
        have t2 : decide ((Sn : Int) < ((0 : Nat) : Int)) = false := by simp
        obtain ⟨R, hR⟩ : ∃ R : Int, R = room - ((Ln : Int) - ((0 : Nat) : Int)) := ⟨_, rfl⟩
        rw [← hR] at C11
        have t3 : decide (R < 0) = false := by simp; omega
        have t4 : decide (room < R) = false := by simp; omega
        clear hLn hSn hB5 hR5 hS5 hR
        go_wp2_with fail
        refine (C13.out _ I5.out.bf).mono ?_
        rintro e5 w51 ⟨rfl, rfl⟩
        go_wp2_with fail
        refine (C12.out _ I5.out.bf).mono ?_
        rintro e5 w51 ⟨rfl, q51, rfl⟩
        have I51 := hid (I5.out.go ((Q.refl _).drewN q51))
        clear I5
        generalize World.drewN _ q51 = w51 at *
        go_wp2_with fail
        refine (C14.out _ I51.out.bf).mono ?_
        rintro e5 w52 ⟨rfl, rfl⟩
        go_wp2_with fail
        refine (C13.out _ I51.out.bf).mono ?_
        rintro e5 w52 ⟨rfl, rfl⟩
        go_wp2_with fail
        refine (C11.out _ I51.out.bf).mono ?_
        rintro e5 w52 ⟨rfl, q52, rfl⟩
        have I52 := hid (I51.out.go ((Q.refl w51).drewN q52))
        clear I51
        generalize w51.drewN q52 = w52 at *
        go_wp2_with fail
        refine (C11.out _ I52.out.bf).mono ?_
        rintro e5 w53 ⟨rfl, q53, rfl⟩
        have I53 := hid (I52.out.go ((Q.refl w52).drewN q53))
        clear I52
        generalize w52.drewN q53 = w53 at *
        go_wp2
        go_roundw
        case rel => exact ⟨k + 1, s5, d5, m5, gv5, gs5, by omega, by go_num, rfl, I53.out, L5.out⟩
        case measure => simp [intOf]; omega
    · obtain rfl : k = l0 := by omega
      go_wp2_with fail
      refine (awake_any ws).mono ?_
      rintro e w7 ⟨rfl, hq7⟩
      have Q7 := hid (IR.out.q.trans hq7)
      clear hq7
      go_wp2
      go_ret
      exact ⟨rfl, Q7.out⟩

theorem walk (room : Int) (a0 : Option Addr) (l0 p0 : Nat) (z0 : Nat → Cl) (g0 : ∀ i, i < l0 → Good W (z0 i)) (s0' : SegO W a0 l0 z0) (n0 : l0 * 56 ≤ 140737488351232 ∧ ∀ i, i < l0 → (z0 i).dn ≤ 140737488351232) :
    Calls Try.prog 6 #[.int .i64 room, .slice a0 l0 p0] W fun e w' => e = .returned (.bool true) ∧ Below W.heap.size W w' := by
  by_cases hb : 1 ≤ room ∧ room ≤ 65536
  · exact walk_good room a0 l0 p0 z0 g0 s0' n0 hb.1 hb.2
  · exact walk_bad room a0 l0 p0 hb

set_option maxRecDepth 100000 in
theorem lifted (os : Os) (started : os.Started) (H : Type) (enc : TypeId × Value → H) :
    ReturnsInHanded {} Try.checked os 6 .any (Rows.sendqLimitsSpec.pre6 enc Try.prog Try.f6 Rows.sendqLimitsRow.domain false) (Rows.sendqLimitsSpec.post enc Try.prog Try.f6 false true false false) := by
  refine returnsInHanded_of_change_sized (C := Try.checked) own_knob started (by kernel_rfl) Try.func6
    (ChangeSpec.witness6 (enc := enc) (C := Try.checked) false ⟨#[], #[.int .i64 0, .slice none 0 0], []⟩ 8 (by kernel_rfl) (by kernel_rfl) (by kernel_rfl) (by kernel_rfl)) ?_
  intro W base args ds gs before hval0 hW hcnd hsz0 _
  have hval : ∀ (j : Nat) t v, Try.f6.params[j]? = some t → args[j]? = some v → Value.okWide Try.prog W .any base t v := hval0
  have hsz : (DataW.weightsEach Try.prog (Try.f6.params.toList ++ Rows.sendqLimitsSpec.plain.varTypes Try.prog) (ds ++ gs)).all (· ≤ reachBytes) = true := hsz0
  have hW' := hW
  obtain ⟨p, q, hA0, hV, rfl, hfz, hnd⟩ := hW
  have hA : DataW.TrodAll enc Try.prog W 0 (fun _ => true) true Try.f6.params.toList args.toList ds p := hA0
  rw [Try.params6] at hA hval hsz
  obtain ⟨v0, vs0, d0, ds0, p0, q0, hargs, rfl, rfl, h0, r0⟩ := trodAll_cons hA
  obtain ⟨v1, vs1, d1, ds1, p1, q1, rfl, rfl, rfl, h1, r1⟩ := trodAll_cons r0
  obtain ⟨rfl, rfl, rfl⟩ := trodAll_nil r1
  obtain rfl : args = #[v0, v1] := by cases args; simp_all
  obtain ⟨rfl, rfl⟩ := trodVars_none hV
  obtain ⟨a0, rfl, rfl, rfl, w0⟩ := open_int Try.underlying3 (hval 0 3 v0 rfl rfl) h0
  obtain ⟨a1, len1, cap1, rfl⟩ := okWide_slice Try.underlying32 (hval 1 32 v1 rfl rfl)
  have k1 := h1
  have lt1 : ∀ x ∈ p1, x.block < W.heap.size := by obtain ⟨m, hm⟩ := k1; exact DataW.trod_lt m _ _ _ hm
  obtain ⟨z1, zl1, zs1, zb1, zc1, ze1, zd1⟩ := open_ops h1
  have zn1 := len_le_ops hsz (j := 1) rfl rfl zd1
  clear hA0 hval0
  refine (walk a0 a1 len1 cap1 z1 zl1 zs1 zn1).mono fun e W' ⟨he, bel⟩ => ?_
  subst he
  exact ⟨_, rfl, _, _, _, [], _, [], hW', trodAll_mk1 (shut_bool Try.underlying4 _), (trodAll_cons_mk (shut_int Try.underlying3 w0) (trodAll_cons_mk (Below.trod laid_out (by kernel_rfl) (of_decide_eq_true (by kernel_rfl)) k1 bel lt1) trodAll_mk0)), rfl, bel.frame _, fun h => by cases h⟩

theorem over : Rows.sendqLimitsRow.holds Try.pinned (OpenSpec.ofChange Rows.sendqLimitsSpec) :=
  OpenClaim.holds_of_wide 6 Try.f6 rfl rfl rfl rfl rfl rfl rfl ⟨rfl, rfl, rfl, rfl, rfl⟩ rfl rfl rfl rfl rfl (by kernel_rfl) Try.func6 (by kernel_rfl)
    (of_decide_eq_true (by kernel_rfl)) (by unfold Func.isWrapper; first | (rw [if_pos (by decide +kernel)]; kernel_rfl) | (rw [if_neg (by decide +kernel)]; exact ⟨rfl, rfl⟩))
    (fun os started H enc _ => lifted os started H enc)

end Go.Proofs.Ytppemfdoogmeeaa.sendqLimits
namespace Go.Proofs.Ytppemfdoogmeeaa

/-- The statement. -/
theorem sendqLimits_holds : Rows.SendqLimitsSaid := sendqLimits.over
#print axioms sendqLimits_holds
end Go.Proofs.Ytppemfdoogmeeaa
