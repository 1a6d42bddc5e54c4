/-
  Proved: for all bytes, ints and bools the law turnpikelaw04.SendqArrives returns true, and its arguments read as they did. No condition beyond the form's own reach.
-/
import Derived.Test.YtppemfdoogmeeaaRows
import Derived.Test.YtppemfdoogmeeaaAwake
import Derived.Test.YtppemfdoogmeeaaRim
import Derived.Test.YtppemfdoogmeeaaArrM
import Derived.Test.YtppemfdoogmeeaaArrB
import Derived.WalkKit
import Derived.Deep.Cut
import Derived.Deep.CutRange
import Derived.ProofKit
import Derived.OpenShut
import Derived.ShutString
import Derived.ChangeOld
import Derived.Below
import Derived.SizedLaws
namespace Go.Proofs.Ytppemfdoogmeeaa.sendqArrives
open Go.ChangeShapes Go.WideShapes Go.ChangeAt Go.RowKit
open Go.ChangeMaps (open_string shut_string)
set_option linter.unusedVariables false

variable {W : World}

/-- What holds at the head of the main loop. -/
def ArInv (W : World) (rb : Nat) (gv : Sv) (zs : List Int) (SL L : Nat) (iv ev : Value) (wr : World) : Prop :=
  ∃ (i : Nat) (s : S) (d m : Sv) (gs : List Bool) (e : Bool), i ≤ SL + L + 3 ∧ iv = .int .i64 i ∧ ev = .bool e ∧ Inv3 W wr rb d m gv 65536 s gs ∧ AS L zs s ∧ gs.length = L ∧ (∀ k, k < L → at_ s.ms k = 3 → gs.getD k false = true) ∧ (s.en = 3 → e = true) ∧ nd s ≤ L + 1 - (i - SL)
/-- What holds at the head of the first loop. -/
def GtInv (W : World) (rb : Nat) (d m : Sv) (s : S) (l0 : Nat) (iv gvv : Value) (wr : World) : Prop :=
  ∃ (j : Nat) (gv : Sv), j ≤ l0 ∧ iv = .int .i64 j ∧ gvv = .slice gv.a gv.n gv.c ∧ Inv3 W wr rb d m gv 65536 s (List.replicate j false)
/-- What holds at the head of the loop over a chunk that arrives. -/
def GotInv (W : World) (rb : Nat) (d m gv : Sv) (sn : S) (gs : List Bool) (j P dn : Nat) (kv : Value) (wr : World) : Prop :=
  ∃ (k : Nat) (gs' : List Bool), k ≤ dn ∧ kv = .int .i64 k ∧ Inv3 W wr rb d m gv 65536 sn gs' ∧ gs'.length = j ∧ (∀ q, gs.getD q false = true → gs'.getD q false = true) ∧ (∀ q, P ≤ q → q < P + k → gs'.getD q false = true)
/-- What is drawn for a round. -/
def ArSel (SL i : Nat) (mv gv : Value) : Prop := ∃ (most : Int) (gone : Bool), mv = .int .i64 most ∧ gv = .bool gone ∧ (SL ≤ i → most = 65536 ∧ gone = false)

set_option maxHeartbeats 1000000 in
set_option maxRecDepth 100000 in
theorem walk_big (a0 : Option Addr) (l0 p0 : Nat) (a1 : Option Addr) (l1 p1 : Nat) (a2 : Option Addr) (l2 p2 : Nat) (hb : 65536 < l0) : Calls Try.prog 5 #[.slice a0 l0 p0, .slice a1 l1 p1, .slice a2 l2 p2] W fun e w' => e = .returned (.bool true) ∧ Below W.heap.size W w' := by
  have b1 : decide ((65536 : Int) < (l0 : Int)) = true := by simp; omega
  have b1' : (65536 : Int) < (l0 : Int) := by omega
  clear hb
  go_enter Try.func5, Try.ntmps5
  go_wp2_with fail
  refine (new_good 65536 W (by omega) (by omega)).mono ?_
  rintro e w1 ⟨rfl, hb1, hq1, hlt1⟩
  have Q1 := hid hq1
  clear hb1 hq1
  go_wp2
  go_ret
  exact ⟨by first | rfl | simp, Q1.out⟩

set_option maxHeartbeats 16000000 in
set_option maxRecDepth 100000 in
theorem walk_good (a0 : Option Addr) (l0 p0 : Nat) (zs : List Int) (hl : zs.length = l0) (hs : Seg W a0 zs) (hp0 : l0 ≤ p0) (hb : l0 ≤ 65536)
    (a1 : Option Addr) (l1 p1 : Nat) (ns : List Int) (hl1 : ns.length = l1) (hs1 : SegN W a1 ns) (hn1 : l1 * 8 ≤ 140737488351232)
    (a2 : Option Addr) (l2 p2 : Nat) (zb : Nat → Bool) (hs2 : SegB W a2 l2 zb) (hn2 : l2 ≤ 140737488351232) :
    Calls Try.prog 5 #[.slice a0 l0 p0, .slice a1 l1 p1, .slice a2 l2 p2] W fun e w' => e = .returned (.bool true) ∧ Below W.heap.size W w' := by
  have b1 : decide ((65536 : Int) < (l0 : Int)) = false := by simp; omega
  have HL := hid hl
  have HS := hid hs
  have HL1 := hid hl1
  have HS1 := hid hs1
  have HS2 := hid hs2
  have A0 := hid (show AS l0 zs (fiS (wrS 65536 s0 zs)) from by have := as0 (zs := zs) (by omega); rw [hl] at this; exact this)
  have HWN := hid (show wrN 65536 s0 l0 = l0 from by rw [← hl]; exact as0_n (by omega))
  have H0M := hid (show ∀ k, at_ (fiS (wrS 65536 s0 zs)).ms k ≠ 3 from fun k => by
    show at_ ([] ++ List.replicate _ 0) k ≠ 3
    rw [List.nil_append, at_rep]; split <;> omega)
  have H0E := hid (show (fiS (wrS 65536 s0 zs)).en ≠ 3 from by show (0 : Int) ≠ 3; omega)
  have HE0 := hid (show wrE s0 = 0 from rfl)
  have HE1 := hid (show wrE (wrS 65536 s0 zs) = 0 from rfl)
  have HOW := hid (ok_wr (ok0 (room := 65536) (by omega) (by omega)) zs)
  clear hl hs hl1 hs1 hs2
  go_enter Try.func5, Try.ntmps5
  go_wp2_with fail
  refine (new_good 65536 W (by omega) (by omega)).mono ?_
  rintro e w1 ⟨rfl, hb1, hq1, hlt1⟩
  have B1 := hid hb1
  have Q1 := hid hq1
  clear hb1 hq1
  go_wp2_with fail
  refine (copy_any a0 l0 p0 zs w1 HL.out (by omega) (HS.out.q Q1.out)).mono ?_
  rintro e w2 ⟨g, rfl, hq2, hsg, hg⟩
  have B2 := hid (B1.out.q hq2)
  have Q2 := hid (Q1.out.trans hq2)
  have HSG := hid hsg
  have HGW := hid (show ¬ Fp W.heap.size nilS nilS g from by
    rintro (h | h | h)
    · omega
    · cases h
    · cases h)
  clear hq2 hsg hg
  go_wp2_with fail
  refine (write_any W.heap.size nilS nilS 65536 s0 (some ⟨g, 0, none⟩) l0 l0 zs w2 B2.out (ok0 (by omega) (by omega)) HSG.out.seg HL.out (Nat.le_refl _) (by omega) (fun _ b hb e => by
    have e' : g = b := by simpa [blk] using hb
    exact HGW.out (by rw [e']; exact e))).mono ?_
  rintro e w3 ⟨d3, m3, rfl, hb3, hk3, hf3⟩
  rw [HWN.out, HE0.out]
  have B3 := hid hb3
  have Q3 := hid (show Q W w3 from ((Keep.ofQ (F := fun k => W.heap.size ≤ k) Q2.out).trans' hk3 (fun i hi e => by
    rcases e with h | h | h
    · omega
    · cases h
    · cases h)).toQ (fun i hi h => by omega))
  have F3 := hid (show ∀ i, Fp W.heap.size d3 m3 i → W.heap.size ≤ i from fun i hi => by
    rcases hf3 i hi with h | h
    · rcases h with h | h | h
      · omega
      · cases h
      · cases h
    · have := Q2.out.size; omega)
  clear hb3 hk3 hf3
  have hne : ((l0 : Int) != (l0 : Int)) = false := by simp
  go_wp2_with fail
  refine (finish_any W.heap.size d3 m3 65536 _ w3 B3.out).mono ?_
  rintro e w4 ⟨rfl, hb4, hk4⟩
  rw [HE1.out]
  have IV0 := hid (show Inv3 W w4 W.heap.size d3 m3 nilS 65536 (fiS (wrS 65536 s0 zs)) [] from ⟨hb4, A0.out.ok, sub_nil _ _ _, (fun b hb => by cases hb), F3.out, (fun b hb => by cases hb),
    ((Keep.ofQ (F := fun k => W.heap.size ≤ k) Q3.out).trans' hk4 (fun i hi e => by omega)).toQ (fun i hi h => by omega)⟩)
  clear hb4 hk4 B1 B2 B3 Q1 Q2 Q3 F3 HSG HGW HOW HE1 HE0 HWN
  generalize fiS (wrS 65536 s0 zs) = sA at *
  generalize hrb : W.heap.size = rb at *
  have HRB := hid hrb
  clear hrb
  go_wp2
  go_loopw [63, 11] (fun iv gvv wr => GtInv W rb d3 m3 sA l0 iv gvv wr) (fun i _ _ => l0 - (intOf i).toNat)
  case atStart => exact ⟨0, nilS, Nat.zero_le _, rfl, rfl, IV0.out⟩
  case round =>
    obtain ⟨j, gv, hj, rfl, rfl, hiv⟩ := hrel
    by_cases hlt : j < l0
    · have hlt' : (j : Int) < (l0 : Int) := by omega
      have hwi : IntKind.i64.wrap ((j : Int) + 1) = ((j + 1 : Nat) : Int) := by rw [IntKind.wrap_i64]; omega
      have hgn : gv.n = j := by have := hiv.rg.len; rw [List.length_replicate] at this; omega
      obtain ⟨gv2, w5, hr5, hrow5, hk5, hb5⟩ := rowb_one false hiv.rg (by omega)
      have I5 := hid (show Inv3 W w5 rb d3 m3 gv2 65536 sA (List.replicate (j + 1) false) from by rw [List.replicate_succ']; exact hiv.bool hrow5 hk5 hb5)
      clear hiv hrow5 hk5 hb5 hgn
      go_wp2_with (at_builtin; refine Lib.wpList_append_run _ rfl _ _ _ _ rfl _ _ rfl rfl _ _ hr5 ?_)
      go_roundw
      case rel => exact ⟨j + 1, gv2, by omega, by go_num, rfl, I5.out⟩
      case measure => simp [intOf]; omega
    · obtain rfl : j = l0 := by omega
      have hge : decide ((j : Int) < (j : Int)) = false := by simp
      have I0 := hid hiv
      clear hiv hj hlt IV0
      obtain ⟨U, hU⟩ : ∃ U, U = l1 + j := ⟨_, rfl⟩
      obtain ⟨V, hV⟩ : ∃ V, V = l1 + j + 2 := ⟨_, rfl⟩
      have hwU : IntKind.i64.wrap ((l1 : Int) + (j : Int)) = U := by rw [IntKind.wrap_i64]; omega
      have hwV : IntKind.i64.wrap ((U : Int) + 2) = V := by rw [IntKind.wrap_i64]; omega
      have HV := hid hV
      clear hU hV
      go_wp2
      go_loopw [13, 12] (fun iv ev wr => ArInv W rb gv zs l1 j iv ev wr) (fun i _ _ => l1 + j + 3 - (intOf i).toNat)
      case atStart => exact ⟨0, sA, d3, m3, _, false, by omega, rfl, rfl, I0.out, A0.out, by simp, fun k hk e => absurd e (H0M.out k), fun e => absurd e H0E.out, by have := A0.out.nd; omega⟩
      case round =>
        obtain ⟨i, s, d, m, gs, e, hi, rfl, rfl, hiv, has, hgl, hgot, hend, hnd⟩ := hrel
        have IR := hid hiv
        have AR := hid has
        have GL := hid hgl
        have GO := hid hgot
        have EN := hid hend
        have ND := hid hnd
        clear hiv has hgl hgot hend hnd I0
        by_cases hlt : i ≤ V
        · have hle : (i : Int) ≤ (V : Int) := by omega
          have hle' : decide ((i : Int) ≤ (V : Int)) = true := by simp; omega
          have hwi : IntKind.i64.wrap ((i : Int) + 1) = ((i + 1 : Nat) : Int) := by rw [IntKind.wrap_i64]; have := HV.out; omega
          go_upto_if 82 with fail
          go_cut [14, 15] from 69 to 190 (fun mv gvv wc => ArSel l1 i mv gvv ∧ wc = wr)
          case first =>
            by_cases hsl : i < l1
            · have hsl' : (i : Int) < (l1 : Int) := by omega
              have hsd : decide ((i : Int) < (l1 : Int)) = true := by simp; omega
              obtain ⟨b, off, rfl, hc⟩ := (HS1.out.q IR.out.q) (by intro e; have := HL1.out; rw [e] at this; simp at this; omega)
              have dk := hc i (by rw [HL1.out]; exact hsl)
              clear hc
              generalize ns.getD i 0 = n at *
              by_cases hll : i < l2
              · have hll' : (i : Int) < (l2 : Int) := by omega
                have hld : decide ((i : Int) < (l2 : Int)) = true := by simp; omega
                obtain ⟨b2, off2, rfl, hc2⟩ := (HS2.out.q IR.out.q) (by omega)
                have dk2 := hc2 i hll
                clear hc2
                generalize zb i = lb at *
                go_wp2_with fail
                go_meet
                case rel => exact ⟨⟨n, lb, rfl, rfl, fun h => by omega⟩, by first | rfl | trivial⟩
              · have hld : decide ((i : Int) < (l2 : Int)) = false := by simp; omega
                go_wp2_with fail
                go_meet
                case rel => exact ⟨⟨n, false, rfl, rfl, fun h => by omega⟩, by first | rfl | trivial⟩
            · have hsd : decide ((i : Int) < (l1 : Int)) = false := by simp; omega
              go_wp2_with fail
              go_meet
              case rel => exact ⟨⟨65536, false, rfl, rfl, fun h => ⟨rfl, rfl⟩⟩, by first | rfl | trivial⟩
          case rest =>
            obtain ⟨⟨most, gone, rfl, rfl, hsel⟩, hwc⟩ := hcut
            replace hwc := hwc.symm
            subst hwc
            have HSEL := hid hsel
            clear hsel
            have HLs := hid (show s.ms.length ≤ 4611686018427387904 from by rw [AR.out.len]; omega)
            go_wp2_with fail
            refine (next_any rb d m 65536 s most (j : Int) wr IR.out.bf IR.out.ok HLs.out).mono ?_
            rintro e' w5 ⟨D, rfl, hb5, hr5, hD5, hk5⟩
            have hDn : D.n = nxN s most (j : Int) := by rw [← hr5.len, nx_len IR.out.ok]
            rw [hDn]
            have I5 := hid (IR.out.step hb5 (ok_nx IR.out.ok _ _) hk5 (fun i h => .inl h))
            cases hok : nxO s most (j : Int)
            · -- nothing went
              have hn := as_none AR.out most hok
              rw [hn] at I5
              have NN := hid (show nd s ≤ j + 1 - (i + 1 - l1) from by
                by_cases hil : l1 ≤ i
                · obtain ⟨h1, h2⟩ := HSEL.out hil
                  rw [h1] at hok
                  have := (as_rest AR.out (by omega) hok).1
                  omega
                · have := ND.out; omega)
              have hI1 : i + 1 ≤ l1 + j + 3 := by have := HV.out; omega
              clear hb5 hr5 hD5 hk5 hDn hok hn
              generalize nxP s most (j : Int) = P at *
              generalize nxN s most (j : Int) = K at *
              generalize nxF s most (j : Int) = F at *
              go_wp2
              go_roundw
              case rel => exact ⟨i + 1, s, d, m, gs, e, hI1, by go_num, rfl, I5.out, AR.out, GL.out, GO.out, EN.out, NN.out⟩
              case measure => simp [intOf]; omega
            · -- a chunk went
              obtain ⟨c1, c2, c3, c4, c5⟩ := as_chunk AR.out most hok
              have AT := hid (as_next AR.out most hok true)
              have AF := hid (as_next AR.out most hok false)
              have MT := hid (as_marks AR.out most hok true)
              have MF := hid (as_marks AR.out most hok false)
              have ET := hid (as_en AR.out most hok true)
              have EF := hid (as_en AR.out most hok false)
              have LT := hid (as_less AR.out most hok)
              have BT := hid (as_tuB AR.out most hok)
              have HOK := hid (ok_nx IR.out.ok most (j : Int))
              have HNL := hid (show (nxS s most (j : Int)).ms.length ≤ 4611686018427387904 from by rw [nxS_ms, rg_len]; exact HLs.out)
              unfold asS at AT AF MT MF ET EF LT
              rw [c5] at hr5
              have R5 := hid hr5
              have D5 := hid hD5
              clear hb5 hr5 hD5 hk5 c5
              generalize nxS s most (j : Int) = sn at *
              generalize nxP s most (j : Int) = P at *
              generalize nxN s most (j : Int) = K at *
              generalize nxF s most (j : Int) = F at *
              obtain ⟨da, dn, dc⟩ := D
              simp only at hDn
              subst hDn
              have hI1 : i + 1 ≤ l1 + j + 3 := by have := HV.out; omega
              have LOS := hid (fun w h => lose_any rb d m 65536 sn (P : Int) (dn : Int) F w h HOK.out HNL.out (by omega))
              have ACK := hid (fun w h => ack_any rb d m 65536 sn (P : Int) (dn : Int) F w h HOK.out HNL.out (by omega))
              have TEL := hid (tu_ok (ack := false) BT.out).1
              have C1 := hid c1
              have C2 := hid c2
              have C3 := hid (show dn ≠ 0 → (dn : Int) ≤ most from fun h => (c3 h).2)
              have SAM := hid (show ∀ w a' c', Row w ⟨da, dn, dc⟩ ((zs.drop P).take dn) → Seg w a' ((zs.drop P).take dn) → Calls Try.prog 21 #[.slice da dn dc, .slice a' dn c'] w fun e w' => e = .returned (.bool true) ∧ ∃ k, w' = w.drewN k from fun w a' c' h1 h2 => same_any da a' dn dc c' _ w (Sub.seg h1) h2 (by have := h1.1; simpa using this) (by omega))
              clear c1 c2 c3 c4 hok
              go_upto_region 22 with fail
              go_cut [160] from 69 to 190 (fun v wc => v = .bool false ∧ ∃ k, wc = w5.drewN k)
              case first =>
                obtain ⟨T, hT⟩ : ∃ T, T = P + dn := ⟨_, rfl⟩
                have hcc := C1.out
                have b1 : decide ((P : Int) < 0) = false := by simp
                have b2 : decide ((j : Int) < (P : Int)) = false := by simp; omega
                have b2' : decide (j < P) = false := by simp; omega
                have hw1 : IntKind.i64.wrap ((j : Int) - (P : Int)) = (j : Int) - P := by rw [IntKind.wrap_i64]; omega
                have b3 : decide ((j : Int) - (P : Int) < (dn : Int)) = false := by simp; omega
                have hwT : IntKind.i64.wrap ((P : Int) + (dn : Int)) = T := by rw [IntKind.wrap_i64]; omega
                have hTP : T - P = dn := by omega
                have hPT : P ≤ T := by omega
                have hPT' : (P : Int) ≤ (T : Int) := by omega
                have hTc : T ≤ p0 := by omega
                have hTc' : (T : Int) ≤ (p0 : Int) := by omega
                have hTj : F = true → ((T : Int) != (j : Int)) = false := fun h => by have := C2.out h; simp; omega
                have SG := hid (HS.out.q I5.out.q)
                have HZ := hid (show p0 = P → dn = 0 from fun h => by omega)
                have HT := hid hT
                clear hT hcc
                by_cases hz : dn = 0
                · have b4 : decide ((0 : Int) < (dn : Int)) = false := by simp; omega
                  have b4' : decide (0 < dn) = false := by simp; omega
                  have SE := hid (show ∀ a', Seg w5 a' ((zs.drop P).take dn) from fun a' => by rw [hz]; simp; exact seg_nil _ _)
                  clear hz
                  by_cases hc0 : p0 = P
                  all_goals
                    have hc := hc0
                    clear hc0
                    first
                      | (replace hc : ¬ p0 = P := hc)
                      | (replace hc : (p0 = P) = True := eq_true hc)
                    cases F
                    · go_wp2_with fail
                      refine (SAM.out w5 _ _ R5.out (SE.out _)).mono ?_
                      rintro e2 w6 ⟨rfl, k6, rfl⟩
                      go_wp2_with fail
                      go_meet
                      case rel => exact ⟨rfl, k6, rfl⟩
                    · have hTj2 := hTj rfl
                      go_wp2_with fail
                      refine (SAM.out w5 _ _ R5.out (SE.out _)).mono ?_
                      rintro e2 w6 ⟨rfl, k6, rfl⟩
                      go_wp2_with fail
                      go_meet
                      case rel => exact ⟨rfl, k6, rfl⟩
                · have b4 : decide ((0 : Int) < (dn : Int)) = true := by simp; omega
                  have b4' : decide (0 < dn) = true := by simp; omega
                  have b5 : decide (most < (dn : Int)) = false := by have := C3.out hz; simp; omega
                  have hc : ¬ p0 = P := fun h => hz (HZ.out h)
                  have SE := hid (seg_part SG.out P dn)
                  clear hz
                  cases F
                  · go_wp2_with fail
                    refine (SAM.out w5 _ _ R5.out SE.out).mono ?_
                    rintro e2 w6 ⟨rfl, k6, rfl⟩
                    go_wp2_with fail
                    go_meet
                    case rel => exact ⟨rfl, k6, rfl⟩
                  · have hTj2 := hTj rfl
                    go_wp2_with fail
                    refine (SAM.out w5 _ _ R5.out SE.out).mono ?_
                    rintro e2 w6 ⟨rfl, k6, rfl⟩
                    go_wp2_with fail
                    go_meet
                    case rel => exact ⟨rfl, k6, rfl⟩
              case rest =>
                obtain ⟨rfl, q6, hwc⟩ := hcut
                have I6 := hid (show Inv3 W wc rb d m gv 65536 sn gs from by rw [hwc]; exact I5.out.go ((Q.refl w5).drewN q6))
                clear hwc I5 R5 SAM
                generalize hw6 : wc = w6 at *
                clear hw6
                cases gone
                · -- it arrives
                  have HGN := hid (show gv.n = j by rw [← I6.out.rg.len]; exact GL.out)
                  go_wp2
                  go_loopw [171, 20] (fun kv _ wr => GotInv W rb d m gv sn gs j P dn kv wr) (fun kv _ _ => dn - (intOf kv).toNat)
                  case atStart => exact ⟨0, gs, Nat.zero_le _, rfl, I6.out, GL.out, fun q h => h, fun q h1 h2 => by omega⟩
                  case round =>
                    obtain ⟨k, gs', hk, rfl, hik, hlk, hg1, hg2⟩ := hrel
                    have hcc := C1.out
                    by_cases hkl : k < dn
                    · have hkl' : (k : Int) < (dn : Int) := by omega
                      obtain ⟨p, hp⟩ : ∃ p, p = P + k := ⟨_, rfl⟩
                      have hpg : p < gv.n := by have := HGN.out; omega
                      have hpg' : (p : Int) < (gv.n : Int) := by omega
                      have hwp : IntKind.i64.wrap ((P : Int) + (k : Int)) = p := by rw [IntKind.wrap_i64]; omega
                      have hwk : IntKind.i64.wrap ((k : Int) + 1) = ((k + 1 : Nat) : Int) := by rw [IntKind.wrap_i64]; omega
                      obtain ⟨g, o, ega, hfz, hc⟩ := rowb_cells hik.rg (show 0 < gv.n by omega)
                      have hcp := hc p hpg
                      have fp := hfz (o + p)
                      have I8 := hid (hik.set ega hpg true)
                      have G8 := hid (show (gs'.set p true).length = j ∧ (∀ q, gs.getD q false = true → (gs'.set p true).getD q false = true) ∧ (∀ q, P ≤ q → q < P + (k + 1) → (gs'.set p true).getD q false = true) from by
                        refine ⟨by rw [List.length_set]; exact hlk, fun q h => ?_, fun q h1 h2 => ?_⟩
                        · rw [getD_set (by have := HGN.out; omega)]; split
                          · rfl
                          · exact hg1 q h
                        · rw [getD_set (by have := HGN.out; omega)]; split
                          · rfl
                          · exact hg2 q h1 (by omega))
                      clear hik hlk hg1 hg2 hfz hc hp hk hkl hcc
                      generalize gs'.getD p false = v at *
                      obtain ⟨ga, gn, gc⟩ := gv
                      simp only at ega
                      subst ega
                      go_wp2
                      go_roundw
                      case rel => exact ⟨k + 1, _, by omega, by go_num, I8.out, G8.out⟩
                      case measure => simp [intOf]; omega
                    · obtain rfl : k = dn := by omega
                      have hge2 : decide ((k : Int) < (k : Int)) = false := by simp
                      have I8 := hid hik
                      have L8 := hid hlk
                      have TEA := hid (tu_ok (ack := true) BT.out).1
                      have NN := hid (show nd (tuS sn true (P : Int) (k : Int) F) ≤ j + 1 - (i + 1 - l1) from by
                        have := LT.out; have := ND.out; have := AT.out.nd; omega)
                      have G9 := hid (show ∀ q, q < j → at_ (tuS sn true (P : Int) (k : Int) F).ms q = 3 → gs'.getD q false = true from fun q hq e3 => by
                        rw [MT.out q hq] at e3
                        split at e3
                        · next c => exact hg2 q c.1 c.2
                        · exact hg1 q (GO.out q hq e3))
                      clear hik hlk hg1 hg2 hk hkl hcc
                      cases e
                      · have E9 := hid (show (tuS sn true (P : Int) (k : Int) F).en = 3 → F = true from fun e3 => by
                          rw [ET.out] at e3
                          cases hF : F
                          · rw [hF] at e3; simp at e3; have := EN.out e3; cases this
                          · rfl)
                        go_wp2_with fail
                        refine (ACK.out _ I8.out.bf).mono ?_
                        rintro e'' w9 ⟨d9, m9, rfl, hb9, hk9, hf9⟩
                        rw [TEA.out]
                        have I9 := hid (I8.out.step hb9 AT.out.ok hk9 (fun i h => .inl (hf9 i h)))
                        clear hb9 hk9 hf9
                        go_wp2
                        go_roundw
                        case rel => exact ⟨i + 1, _, d9, m9, gs', F, hI1, by go_num, rfl, I9.out, AT.out, L8.out, G9.out, E9.out, NN.out⟩
                        case measure => simp [intOf]; omega
                      · go_wp2_with fail
                        refine (ACK.out _ I8.out.bf).mono ?_
                        rintro e'' w9 ⟨d9, m9, rfl, hb9, hk9, hf9⟩
                        rw [TEA.out]
                        have I9 := hid (I8.out.step hb9 AT.out.ok hk9 (fun i h => .inl (hf9 i h)))
                        clear hb9 hk9 hf9
                        go_wp2
                        go_roundw
                        case rel => exact ⟨i + 1, _, d9, m9, gs', true, hI1, by go_num, rfl, I9.out, AT.out, L8.out, G9.out, fun _ => rfl, NN.out⟩
                        case measure => simp [intOf]; omega
                · -- it is lost
                  go_wp2_with fail
                  refine (LOS.out w6 I6.out.bf).mono ?_
                  rintro e'' w7 ⟨d7, m7, rfl, hb7, hk7, hf7⟩
                  rw [TEL.out]
                  have I7 := hid (I6.out.step hb7 AF.out.ok hk7 (fun i h => .inl (hf7 i h)))
                  have NN := hid (show nd (tuS sn false (P : Int) (dn : Int) F) ≤ j + 1 - (i + 1 - l1) from by
                    by_cases hil : l1 ≤ i
                    · have := (HSEL.out hil).2; cases this
                    · have := AF.out.nd; omega)
                  have G7 := hid (show ∀ k, k < j → at_ (tuS sn false (P : Int) (dn : Int) F).ms k = 3 → gs.getD k false = true from fun k hk e3 => by
                    rw [MF.out k hk] at e3
                    split at e3
                    · simp at e3
                    · exact GO.out k hk e3)
                  have E7 := hid (show (tuS sn false (P : Int) (dn : Int) F).en = 3 → e = true from fun e3 => by
                    rw [EF.out] at e3
                    split at e3
                    · simp at e3
                    · exact EN.out e3)
                  clear hb7 hk7 hf7
                  go_wp2
                  go_roundw
                  case rel => exact ⟨i + 1, _, d7, m7, gs, e, hI1, by go_num, rfl, I7.out, AF.out, GL.out, G7.out, E7.out, NN.out⟩
                  case measure => simp [intOf]; omega
        · have hle' : decide ((i : Int) ≤ (V : Int)) = false := by simp; omega
          have hnd0 : nd s = 0 := by have := ND.out; have := HV.out; omega
          obtain ⟨h3, he3⟩ := nd_zero hnd0
          obtain ⟨hdn, hbs⟩ := nd_done hnd0
          obtain rfl : e = true := EN.out he3
          have hgn : gv.n = j := by rw [← IR.out.rg.len]; exact GL.out
          have DN := hid (done_any rb d m 65536 s wr IR.out.bf IR.out.ok)
          have BS := hid (base_any rb d m 65536 s wr IR.out.bf)
          rw [hdn] at DN
          rw [hbs, AR.out.len] at BS
          have HG := hid (show ∀ k, k < j → gs.getD k false = true from fun k hk => GO.out k hk (h3 k (by rw [AR.out.len]; exact hk)))
          clear h3 he3 hdn hbs hnd0
          have HGN := hid hgn
          clear hgn
          have hgj : (gv.n : Int) = j := by rw [HGN.out]
          have HGJ := hid hgj
          clear hgj
          have hw0 := IR.out.rg
          have HRG := hid hw0
          clear hw0
          generalize hws : wr = ws at *
          clear hws
          go_wp2
          go_loopw [193, 22] (fun kv _ wr => ∃ k : Nat, k ≤ j ∧ kv = .int .i64 k ∧ wr = ws) (fun kv _ _ => j - (intOf kv).toNat)
          case atStart => exact ⟨0, Nat.zero_le _, rfl, rfl⟩
          case round =>
            obtain ⟨k, hk, rfl, hwk⟩ := hrel
            replace hwk := hwk.symm
            subst hwk
            by_cases hkl : k < j
            · have hkg : k < gv.n := by have := HGN.out; omega
              have hkl' : (k : Int) < (gv.n : Int) := by omega
              have hwi : IntKind.i64.wrap ((k : Int) + 1) = ((k + 1 : Nat) : Int) := by rw [IntKind.wrap_i64]; have := HGN.out; omega
              obtain ⟨g, o, ega, _, hc⟩ := rowb_cells HRG.out (show 0 < gv.n by omega)
              have hck := hc k hkg
              rw [HG.out k hkl] at hck
              clear hc
              obtain ⟨ga, gn, gc⟩ := gv
              simp only at ega
              subst ega
              go_wp2
              go_roundw
              case rel => exact ⟨k + 1, by omega, by go_num, by first | rfl | trivial⟩
              case measure => simp [intOf]; omega
            · have hge3 : decide ((k : Int) < (gv.n : Int)) = false := by have := HGN.out; simp; omega
              have hge4 : ¬ k < gv.n := by have := HGN.out; omega
              have hee : ((j : Int) == (j : Int)) = true := by simp
              go_wp2_with fail
              refine DN.out.mono ?_
              rintro e2 w8 ⟨rfl, rfl⟩
              go_wp2_with fail
              refine BS.out.mono ?_
              rintro e2 w8 ⟨rfl, rfl⟩
              go_wp2_with fail
              refine (awake_any ws).mono ?_
              rintro e2 w9 ⟨rfl, hq9⟩
              have Q9 := hid (IR.out.q.trans hq9)
              clear hq9
              go_wp2
              go_ret
              exact ⟨by first | rfl | simp, Q9.out⟩

theorem walk (a0 : Option Addr) (l0 p0 : Nat) (zs : List Int) (hl : zs.length = l0) (hs : Seg W a0 zs) (hp0 : l0 ≤ p0)
    (a1 : Option Addr) (l1 p1 : Nat) (ns : List Int) (hl1 : ns.length = l1) (hs1 : SegN W a1 ns) (hn1 : l1 * 8 ≤ 140737488351232)
    (a2 : Option Addr) (l2 p2 : Nat) (zb : Nat → Bool) (hs2 : SegB W a2 l2 zb) (hn2 : l2 ≤ 140737488351232) :
    Calls Try.prog 5 #[.slice a0 l0 p0, .slice a1 l1 p1, .slice a2 l2 p2] W fun e w' => e = .returned (.bool true) ∧ Below W.heap.size W w' := by
  by_cases hb : l0 ≤ 65536
  · exact walk_good a0 l0 p0 zs hl hs hp0 hb a1 l1 p1 ns hl1 hs1 hn1 a2 l2 p2 zb hs2 hn2
  · exact walk_big a0 l0 p0 a1 l1 p1 a2 l2 p2 (by omega)

set_option maxRecDepth 100000 in
theorem lifted (os : Os) (started : os.Started) (H : Type) (enc : TypeId × Value → H) :
    ReturnsInHanded {} Try.checked os 5 .any (Rows.sendqArrivesSpec.pre6 enc Try.prog Try.f5 Rows.sendqArrivesRow.domain false) (Rows.sendqArrivesSpec.post enc Try.prog Try.f5 false true false false) := by
  refine returnsInHanded_of_change_sized (C := Try.checked) own_knob started (by kernel_rfl) Try.func5
    (ChangeSpec.witness6 (enc := enc) (C := Try.checked) false ⟨#[], #[.slice none 0 0, .slice none 0 0, .slice none 0 0], []⟩ 8 (by kernel_rfl) (by kernel_rfl) (by kernel_rfl) (by kernel_rfl)) ?_
  intro W base args ds gs before hval0 hW hcnd hsz0 _
  have hval : ∀ (j : Nat) t v, Try.f5.params[j]? = some t → args[j]? = some v → Value.okWide Try.prog W .any base t v := hval0
  have hsz : (DataW.weightsEach Try.prog (Try.f5.params.toList ++ Rows.sendqArrivesSpec.plain.varTypes Try.prog) (ds ++ gs)).all (· ≤ reachBytes) = true := hsz0
  have hW' := hW
  obtain ⟨p, q, hA0, hV, rfl, hfz, hnd⟩ := hW
  have hA : DataW.TrodAll enc Try.prog W 0 (fun _ => true) true Try.f5.params.toList args.toList ds p := hA0
  rw [Try.params5] at hA hval hsz
  obtain ⟨v0, vs0, d0, ds0, p0, q0, hargs, rfl, rfl, h0, r0⟩ := trodAll_cons hA
  obtain ⟨v1, vs1, d1, ds1, p1, q1, rfl, rfl, rfl, h1, r1⟩ := trodAll_cons r0
  obtain ⟨v2, vs2, d2, ds2, p2, q2, rfl, rfl, rfl, h2, r2⟩ := trodAll_cons r1
  obtain ⟨rfl, rfl, rfl⟩ := trodAll_nil r2
  obtain rfl : args = #[v0, v1, v2] := by cases args; simp_all
  obtain ⟨rfl, rfl⟩ := trodVars_none hV
  obtain ⟨a0, len0, cap0, rfl⟩ := okWide_slice Try.underlying27 (hval 0 27 v0 rfl rfl)
  have k0 := h0
  have lt0 : ∀ x ∈ p0, x.block < W.heap.size := by obtain ⟨m, hm⟩ := k0; exact DataW.trod_lt m _ _ _ hm
  obtain ⟨z0, zl0, zs0, zb0, zc0, ze0, zd0⟩ := open_bytes h0
  have zn0 := len_le_bytes hsz (j := 0) rfl rfl zd0
  obtain ⟨a1, len1, cap1, rfl⟩ := okWide_slice Try.underlying34 (hval 1 34 v1 rfl rfl)
  have k1 := h1
  have lt1 : ∀ x ∈ p1, x.block < W.heap.size := by obtain ⟨m, hm⟩ := k1; exact DataW.trod_lt m _ _ _ hm
  obtain ⟨z1, zl1, zs1, zb1, zc1, ze1, zd1⟩ := open_nums h1
  have zn1 := len_le_nums hsz (j := 1) rfl rfl zd1
  obtain ⟨a2, len2, cap2, rfl⟩ := okWide_slice Try.underlying42 (hval 2 42 v2 rfl rfl)
  have k2 := h2
  have lt2 : ∀ x ∈ p2, x.block < W.heap.size := by obtain ⟨m, hm⟩ := k2; exact DataW.trod_lt m _ _ _ hm
  obtain ⟨z2, zl2, zs2, zb2, zc2, ze2, zd2⟩ := open_bools h2
  have zn2 := len_le_bools hsz (j := 2) rfl rfl zd2
  clear hA0 hval0
  refine (walk a0 len0 cap0 z0 zl0 zs0 zc0 a1 len1 cap1 z1 zl1 zs1 zn1 a2 len2 cap2 z2 zs2 zn2).mono fun e W' ⟨he, bel⟩ => ?_
  subst he
  exact ⟨_, rfl, _, _, _, [], _, [], hW', trodAll_mk1 (shut_bool Try.underlying4 _), (trodAll_cons_mk (Below.trod laid_out (by kernel_rfl) (of_decide_eq_true (by kernel_rfl)) k0 bel lt0) (trodAll_cons_mk (Below.trod laid_out (by kernel_rfl) (of_decide_eq_true (by kernel_rfl)) k1 bel lt1) (trodAll_cons_mk (Below.trod laid_out (by kernel_rfl) (of_decide_eq_true (by kernel_rfl)) k2 bel lt2) trodAll_mk0))), rfl, bel.frame _, fun h => by cases h⟩

theorem over : Rows.sendqArrivesRow.holds Try.pinned (OpenSpec.ofChange Rows.sendqArrivesSpec) :=
  OpenClaim.holds_of_wide 5 Try.f5 rfl rfl rfl rfl rfl rfl rfl ⟨rfl, rfl, rfl, rfl, rfl⟩ rfl rfl rfl rfl rfl (by kernel_rfl) Try.func5 (by kernel_rfl)
    (of_decide_eq_true (by kernel_rfl)) (by unfold Func.isWrapper; first | (rw [if_pos (by decide +kernel)]; kernel_rfl) | (rw [if_neg (by decide +kernel)]; exact ⟨rfl, rfl⟩))
    (fun os started H enc _ => lifted os started H enc)

end Go.Proofs.Ytppemfdoogmeeaa.sendqArrives
namespace Go.Proofs.Ytppemfdoogmeeaa

/-- The statement. -/
theorem sendqArrives_holds : Rows.SendqArrivesSaid := sendqArrives.over
#print axioms sendqArrives_holds
end Go.Proofs.Ytppemfdoogmeeaa
