/-
  What the document's own Next answers and does: a contract that the walk of the law SendqPlays uses.
-/
import Derived.Test.YtppemfdoogmeeaaRefW
import Derived.Test.YtppemfdoogmeeaaNext
import Derived.Test.YtppemfdoogmeeaaNextM
import Derived.Deep.Cut
import Derived.Deep.CutRange
namespace Go.Proofs.Ytppemfdoogmeeaa
open Go.RowKit
set_option linter.unusedVariables false

/-- Where the document's Next begins, or -1. -/
def nxI (s : S) : Int := if fs 2 s.ms < s.ms.length then (fs 2 s.ms : Int) else ixv 0 s.ms
theorem nxI_eq {room : Int} {s : S} (h : Ok room s) : nxI s = nxA s ∨ (nxI s = -1 ∧ ¬ fs 2 s.ms < s.ms.length ∧ ¬ s.sent < s.ms.length) := by
  unfold nxI nxA ixv
  rw [fs0 h]
  by_cases hf : fs 2 s.ms < s.ms.length
  · rw [if_pos hf, if_pos hf]; exact .inl rfl
  · rw [if_neg hf, if_neg hf]
    by_cases hs : s.sent < s.ms.length
    · rw [if_pos hs]; exact .inl rfl
    · rw [if_neg hs]; exact .inr ⟨rfl, hf, hs⟩

/-- What the document's Next answers and does. -/
def RnAns (rd : Nat) (x y : Sv) (room : Int) (s : S) (most limit : Int) (w : World) (e : Ending) (w' : World) : Prop :=
  ∃ D : Sv, e = .returned (.tuple #[.int .i64 (nxP s most limit), .slice D.a D.n D.c, .bool (nxF s most limit), .bool (nxO s most limit)]) ∧ Rw w' rd x y room (nxS s most limit) ∧ Row w' D (nxD s most limit) ∧ (∀ b, blk D.a = some b → w.heap.size ≤ b) ∧ Keep (Fp rd x y) w w'

theorem take_at {bs : List Int} {A j : Nat} (h : A + j < bs.length) : (bs.drop A).take (j + 1) = (bs.drop A).take j ++ [at_ bs (A + j)] := by
  rw [take_succ_at (by rw [List.length_drop]; omega), at_drop]

/-- What is gathered so far. -/
def RnInv (wc : World) (s : S) (A K : Nat) (i dv : Value) (wr : World) : Prop :=
  ∃ j : Nat, ∃ D : Sv, A ≤ j ∧ j ≤ A + K ∧ i = .int .i64 j ∧ dv = .slice D.a D.n D.c ∧ D.n + A = j ∧ Row wr D ((s.bs.drop A).take (j - A)) ∧ (∀ b, blk D.a = some b → wc.heap.size ≤ b) ∧ Q wc wr
/-- What is gathered. -/
def RnGot (wc : World) (s : S) (most limit : Int) (dv : Value) (wd : World) : Prop :=
  ∃ D : Sv, dv = .slice D.a D.n D.c ∧ Row wd D (nxD s most limit) ∧ (∀ b, blk D.a = some b → wc.heap.size ≤ b) ∧ Q wc wd

set_option maxHeartbeats 16000000 in
set_option maxRecDepth 100000 in
theorem rnext_any (rd : Nat) (x y : Sv) (room : Int) (s : S) (most limit : Int) (w : World) (hR : Rw w rd x y room s) (hO : Ok room s) (hL : s.ms.length ≤ 1099511627776) :
    Calls Try.prog 30 #[.pointer (some ⟨rd, 0, none⟩), .int .i64 most, .int .i64 limit] w fun e w' => RnAns rd x y room s most limit w e w' := by
  have F2 := hid (rfirst_any rd x y room s w 2 hR (by omega))
  have F0 := hid (rfirst_any rd x y room s w 0 hR (by omega))
  have HR := hid hR
  have HO := hid hO
  have HL := hid hL
  have hxn : x.n = s.ms.length := by rw [← hR.rs.sd.len]; exact hO.len
  have hyn : y.n = s.ms.length := hR.rs.sm.len.symm
  have HBL := hid (show s.bs.length = s.ms.length from hO.len)
  clear hR hO
  go_enter Try.func30, Try.ntmps30
  go_wp2_with fail
  refine F2.out.mono ?_
  rintro e wa ⟨rfl, rfl⟩
  go_upto_if 20 with fail
  go_cut [10, 11] from 17 (fun st av wc => st = .int .i64 (nxV s) ∧ av = .int .i64 (nxI s) ∧ wc = w)
  case first =>
    by_cases hf : fs 2 s.ms < s.ms.length
    · have hx : ixv 2 s.ms = (fs 2 s.ms : Int) := by unfold ixv; rw [if_pos hf]
      have HV := hid (show nxV s = 2 by unfold nxV; rw [if_pos hf])
      have HI := hid (show nxI s = (fs 2 s.ms : Int) by unfold nxI; rw [if_pos hf])
      rw [hx]
      clear hx hf
      generalize fs 2 s.ms = f at *
      have hn : decide ((f : Int) < 0) = false := by simp
      go_wp2_with fail
      go_meet
      case rel => exact ⟨by rw [HV.out], by rw [HI.out], by first | rfl | trivial⟩
    · have hx : ixv 2 s.ms = -1 := by unfold ixv; rw [if_neg hf]
      have HV := hid (show nxV s = 0 by unfold nxV; rw [if_neg hf])
      have HI := hid (show nxI s = ixv 0 s.ms by unfold nxI; rw [if_neg hf])
      rw [hx]
      clear hx hf
      go_wp2_with fail
      refine F0.out.mono ?_
      rintro e wb ⟨rfl, rfl⟩
      go_wp2_with fail
      go_meet
      case rel => exact ⟨by rw [HV.out], by rw [HI.out], by first | rfl | trivial⟩
  case rest =>
    obtain ⟨rfl, rfl, hwc⟩ := hcut
    replace hwc := hwc.symm
    subst hwc
    clear F2 F0
    go_upto_if 24 with fail
    go_cut [12, 13] from 17 (fun dv _ wd => RnGot w s most limit dv wd)
    case first =>
      rcases nxI_eq HO.out with hI | ⟨hI, hf, hs⟩
      · have IN := hid (lp_in HO.out most limit)
        have OUT := hid (lp_out HO.out most limit)
        have NIN := hid (nx_in HO.out most limit)
        have HDD := hid (show nxD s most limit = (s.bs.drop (nxA s)).take (nxN s most limit) from rfl)
        have hv2 : nxV s = 2 ∨ nxV s = 0 := by unfold nxV; split; exact .inl rfl; exact .inr rfl
        have HI := hid hI
        have hA0 : 0 ≤ nxI s := by rw [hI]; omega
        have hA0' : decide (0 ≤ nxI s) = true := by simp; omega
        clear hI
        generalize nxA s = A at *
        generalize nxN s most limit = K at *
        generalize nxV s = v at *
        go_wp2
        simp only [hA0']
        go_loopw [13, 12] (fun i dv wr => RnInv w s A K i dv wr) (fun i _ _ => A + K - (intOf i).toNat)
        case atStart => exact ⟨A, nilS, Nat.le_refl _, by omega, by rw [HI.out], rfl, by simp [nilS], by rw [Nat.sub_self]; exact sub_nil _ _ _, (fun b hb => by cases hb), Q.refl _⟩
        case round =>
          obtain ⟨j, D, hAj, hj, rfl, rfl, hDn, hrow, hfr, hq⟩ := hrel
          have HRW := hid (HR.out.q hq)
          have c3 := HRW.out.hd.c3
          have c2 := HRW.out.hd.c2
          have HROW := hid hrow
          have HFR := hid hfr
          have HQ := hid hq
          have hwi : IntKind.i64.wrap ((j : Int) + 1) = ((j + 1 : Nat) : Int) := by rw [IntKind.wrap_i64]; have := NIN.out; omega
          by_cases hlt : j < A + K
          · obtain ⟨i1, i2, i3, i4⟩ := IN.out (j - A) (by omega)
            rw [show A + (j - A) = j by omega] at i1 i2 i4
            have hjy : j < y.n := by omega
            have hjy' : (j : Int) < (y.n : Int) := by omega
            have hjx : j < x.n := by omega
            have hjx' : (j : Int) < (x.n : Int) := by omega
            have b1 : decide ((j : Int) < (y.n : Int)) = true := by simp; omega
            obtain ⟨g, o, eya, _, hc⟩ := rown_cells HRW.out.rs.sm (show 0 < y.n by omega)
            obtain ⟨g2, o2, exa, _, hc2⟩ := row_cells HRW.out.rs.sd (show 0 < x.n by omega)
            have hcj := hc j hjy
            have hcj2 := hc2 j hjx
            rw [i2] at hcj
            rw [eya] at c3
            rw [exa] at c2
            have b2 : (v == v) = true := by simp
            have b3 : decide ((D.n : Int) < most) = true := by simp; omega
            have b3' : (D.n : Int) < most := by omega
            have hDl : D.n ≤ 1099511627776 := by have := NIN.out; have := HL.out; omega
            obtain ⟨D2, w2, hr2, hrow2, hk2, hb2⟩ := row_one (at_ s.bs j) hrow hDl
            have REL := hid (show D2.n + A = j + 1 ∧ Row w2 D2 ((s.bs.drop A).take (j + 1 - A)) ∧ (∀ b, blk D2.a = some b → w.heap.size ≤ b) ∧ Q w w2 from by
              have e1 : (s.bs.drop A).take (j + 1 - A) = (s.bs.drop A).take (j - A) ++ [at_ s.bs j] := by
                rw [show j + 1 - A = (j - A) + 1 by omega, take_at (by have := HBL.out; omega), show A + (j - A) = j by omega]
              refine ⟨?_, by rw [e1]; exact hrow2, fun b hb => ?_, ?_⟩
              · have h1 := hrow2.len
                have h2 := hrow.len
                rw [List.length_append, List.length_singleton] at h1
                omega
              · rcases hb2 b hb with h | h
                · exact hfr b h
                · have := hq.size; omega
              · exact ((Keep.ofQ (F := fun i => w.heap.size ≤ i) hq).trans (hk2.mono (fun i _ e => hfr i e))).toQ (fun i hi e => by omega))
            clear hrow hfr hq hrow2 hk2 hb2 hc hc2 eya exa i2
            generalize at_ s.bs j = z at *
            rcases hv2 with hv | hv
            · have hvb : (v == 2) = true := by simp [hv]
              clear hv i4
              go_wp2_with (at_builtin; refine Lib.wpList_append_run _ rfl _ _ _ _ rfl _ _ rfl rfl _ _ hr2 ?_)
              go_roundw
              case rel => exact ⟨j + 1, D2, by omega, by omega, by go_num, rfl, REL.out⟩
              case measure => simp [intOf]; omega
            · have b4 : (j : Int) < limit := by
                rcases i4 with h | h
                · omega
                · exact h
              have b4' : decide ((j : Int) < limit) = true := by simp; omega
              have hvb : (v == 2) = false := by simp; omega
              clear hv i4
              go_wp2_with (at_builtin; refine Lib.wpList_append_run _ rfl _ _ _ _ rfl _ _ rfl rfl _ _ hr2 ?_)
              go_roundw
              case rel => exact ⟨j + 1, D2, by omega, by omega, by go_num, rfl, REL.out⟩
              case measure => simp [intOf]; omega
          · obtain rfl : j = A + K := by omega
            have REL := hid (show Row wr D (nxD s most limit) from by rw [HDD.out]; have := HROW.out; rw [show A + K - A = K by omega] at this; exact this)
            obtain ⟨T, hT⟩ : ∃ T, T = A + K := ⟨_, rfl⟩
            rw [← hT] at OUT NIN hwi ⊢
            have HDK := hid (show D.n = K by omega)
            clear hrow hfr hq HROW hj hAj hlt hDn
            have HT := hid hT
            clear hT
            by_cases h1 : T < y.n
            · have h1' : (T : Int) < (y.n : Int) := by omega
              have b1 : decide ((T : Int) < (y.n : Int)) = true := by simp; omega
              obtain ⟨g, o, eya, _, hc⟩ := rown_cells HRW.out.rs.sm (show 0 < y.n by omega)
              have hcj := hc T h1
              rw [eya] at c3
              clear hc eya
              by_cases h2 : at_ s.ms T = v
              · rw [h2] at hcj
                have b2 : (v == v) = true := by simp
                by_cases h3 : (D.n : Int) < most
                · obtain ⟨q1, q2⟩ := OUT.out (by omega) h2 (by have := HDK.out; omega)
                  have hvb : (v == 2) = false := by simpa using q1
                  have b3 : decide ((D.n : Int) < most) = true := by simp; omega
                  have b4 : decide ((T : Int) < limit) = false := by simp; omega
                  clear h2 q1 q2
                  go_wp2_with fail
                  go_meet
                  case rel => exact ⟨D, rfl, REL.out, HFR.out, HQ.out⟩
                · have b3 : decide ((D.n : Int) < most) = false := by simp; omega
                  clear h2
                  go_wp2_with fail
                  go_meet
                  case rel => exact ⟨D, rfl, REL.out, HFR.out, HQ.out⟩
              · have b2 : (at_ s.ms T == v) = false := by simpa using h2
                clear h2
                generalize at_ s.ms T = u at *
                go_wp2_with fail
                go_meet
                case rel => exact ⟨D, rfl, REL.out, HFR.out, HQ.out⟩
            · have b1 : decide ((T : Int) < (y.n : Int)) = false := by simp; omega
              go_wp2_with fail
              go_meet
              case rel => exact ⟨D, rfl, REL.out, HFR.out, HQ.out⟩
      · have HDD := hid (show nxD s most limit = [] from by unfold nxD; rw [nx_none HO.out most limit hf hs]; simp)
        have hA0 : ¬ 0 ≤ nxI s := by rw [hI]; omega
        have hA0' : decide (nxI s ≥ 0) = false := by simp; omega
        clear hf hs hI
        go_wp2_with fail
        go_meet
        case rel => exact ⟨nilS, rfl, by rw [HDD.out]; exact sub_nil _ _ _, (fun b hb => by cases hb), Q.refl _⟩
    case rest =>
      obtain ⟨D, rfl, hrow, hfr, hq⟩ := hcut
      generalize hw1 : wc = w1 at *
      clear hw1
      have HRW := hid (HR.out.q hq)
      have HROW := hid hrow
      have HFR := hid hfr
      have HQ := hid hq
      have HDN := hid (show D.n = nxN s most limit from by rw [← hrow.len, nx_len HO.out])
      have c4 := HRW.out.hd.c4
      have c5 := HRW.out.hd.c5
      have e0 := HO.out.e0
      clear hrow hfr hq
      go_upto_region 12 with fail
      go_cut [14] from 17 (fun v wx => v = .bool (opn s) ∧ wx = w1)
      case first =>
        cases hf : s.fin
        · rw [hf] at c4
          have HP := hid (show opn s = false from by unfold opn; rw [hf]; rfl)
          clear hf
          go_wp2_with fail
          go_meet
          case rel => exact ⟨by rw [HP.out], by first | rfl | trivial⟩
        · rw [hf] at c4
          by_cases h0 : s.en = 0
          · have HP := hid (show opn s = true from by unfold opn; rw [hf, h0]; rfl)
            rw [h0] at c5
            clear hf h0
            go_wp2_with fail
            go_meet
            case rel => exact ⟨by rw [HP.out], by first | rfl | trivial⟩
          · have b0 : (s.en == 0) = false := by simpa using h0
            have HP := hid (show opn s = (s.en == 2) from by unfold opn; rw [hf, b0]; rfl)
            clear hf h0 e0
            go_wp2_with fail
            go_meet
            case rel => exact ⟨by rw [HP.out], by first | rfl | trivial⟩
      case rest =>
        obtain ⟨rfl, hwx⟩ := hcut
        replace hwx := hwx.symm
        subst hwx
        by_cases hK : nxN s most limit = 0
        · have HZS := hid (show nxS s most limit = enS s (eo s s.sent) from by unfold nxS nxT; rw [if_pos hK, if_pos hK])
          have HZF := hid (show nxF s most limit = eo s s.sent from by unfold nxF nxT; rw [if_pos hK])
          have HZO := hid (show nxO s most limit = eo s s.sent from by unfold nxO nxF nxT; rw [if_pos hK, hK]; simp)
          have HZP := hid (show nxP s most limit = if eo s s.sent then s.ms.length else 0 from by unfold nxP nxF nxT; rw [if_pos hK, if_pos hK])
          have HZD := hid (show nxD s most limit = [] from by unfold nxD; rw [hK]; simp)
          obtain ⟨da, dn, dc⟩ := D
          have hdn : dn = 0 := by have := HDN.out; simp only at this; omega
          subst hdn
          have c1 := HRW.out.hd.c1
          have c2 := HRW.out.hd.c2
          clear hK
          cases hop : opn s
          · have HE := hid (show eo s s.sent = false from by unfold eo; rw [hop]; rfl)
            clear hop
            go_wp2
            go_quiet (fail)
            go_wp2
            (try simp only [Exit.inBlock, Exit.then]); refine bodyPost_ret (results_tmp4 rfl _ _ _) rfl ?_
            refine ⟨nilS, by rw [HZP.out, HZF.out, HZO.out, HE.out]; rfl, by rw [HZS.out, HE.out]; exact HRW.out.q ((Q.refl w1).drewN nq), by rw [HZD.out]; exact sub_nil _ _ _, (fun b hb => by cases hb), (Keep.ofQ HQ.out).drewN nq⟩
          · by_cases hs : s.sent = s.ms.length
            · have HE := hid (show eo s s.sent = true from by unfold eo; rw [hop, hs]; simp)
              have hne : ((s.sent : Int) != (x.n : Int)) = false := by simp; omega
              have hw1 : IntKind.i64.wrap ((x.n : Int) + 0) = x.n := by rw [IntKind.wrap_i64]; omega
              have hw1' : IntKind.i64.wrap (x.n : Int) = x.n := by rw [IntKind.wrap_i64]; omega
              have hgt : decide ((s.sent : Int) < (x.n : Int)) = false := by simp; omega
              have hgt' : decide (s.sent < x.n) = false := by simp; omega
              have hee : ((x.n : Int) == (x.n : Int)) = true := by simp
              have HXN := hid hxn
              have HG5 := hid (show ∀ k, ((w1.drewN k).frozen? ⟨rd, 5, none⟩ = false) from fun k => (HRW.out.hd.q ((Q.refl w1).drewN k)).free 5)
              clear hop hs hxn hyn hL
              go_wp2
              go_quiet (fail)
              have f5 := HG5.out nq
              have c1' := (HRW.out.hd.q ((Q.refl w1).drewN nq)).c1
              have c2' := (HRW.out.hd.q ((Q.refl w1).drewN nq)).c2
              have c5' := (HRW.out.hd.q ((Q.refl w1).drewN nq)).c5
              have FW := hid (HRW.out.q ((Q.refl w1).drewN nq))
              have FR2 := hid (HROW.out.q ((Q.refl w1).drewN nq))
              have FK := hid (show Keep (Fp rd x y) w (w1.drewN nq) from (Keep.ofQ HQ.out).drewN nq)
              generalize w1.drewN nq = w2 at *
              go_wp2
              go_loopw [15] (fun i wr => i = .int .i64 0 ∧ wr = w2) (fun i _ => 0)
              case atStart => exact ⟨rfl, rfl⟩
              case round =>
                obtain ⟨rfl, rfl⟩ := hrel
                go_wp2
                (try simp only [Exit.inBlock, Exit.then]); refine bodyPost_ret (results_tmp4 rfl _ _ _) rfl ?_
                refine ⟨⟨da, 0, dc⟩, ?_, ?_, FR2.out.keep ((Keep.refl (fun k => k = rd) wr).setCell rd 5 (.int .i64 1) (.inl rfl)) (fun b hb e => by have := HFR.out b hb; have := HR.out.hd.lt; omega), HFR.out, FK.out.setCell rd 5 _ (.inl (.inl rfl))⟩
                · rw [HZP.out, HZF.out, HZO.out, HE.out, if_pos rfl, ← HXN.out]; rfl
                · rw [HZS.out, HE.out]; exact ⟨FW.out.hd.end_ 1, FW.out.rs.hd 5 _⟩
            · have HE := hid (show eo s s.sent = false from by unfold eo; rw [hop]; simp [hs])
              have hne : ((s.sent : Int) != (x.n : Int)) = true := by simp; omega
              clear hop hs
              go_wp2
              go_quiet (fail)
              go_wp2
              (try simp only [Exit.inBlock, Exit.then]); refine bodyPost_ret (results_tmp4 rfl _ _ _) rfl ?_
              refine ⟨nilS, by rw [HZP.out, HZF.out, HZO.out, HE.out]; rfl, by rw [HZS.out, HE.out]; exact HRW.out.q ((Q.refl w1).drewN nq), by rw [HZD.out]; exact sub_nil _ _ _, (fun b hb => by cases hb), (Keep.ofQ HQ.out).drewN nq⟩
        · have hI : nxI s = nxA s := by
            rcases nxI_eq HO.out with h | ⟨_, h1, h2⟩
            · exact h
            · exact absurd (nx_none HO.out most limit h1 h2) hK
          rw [hI]
          have HIN := hid (nx_in HO.out most limit)
          have HZS := hid (show nxS s most limit = enS (goS s (nxA s) (nxN s most limit)) (eo s (nxA s + nxN s most limit)) from by unfold nxS nxT; rw [if_neg hK, if_neg hK])
          have HZF := hid (show nxF s most limit = eo s (nxA s + nxN s most limit) from by unfold nxF nxT; rw [if_neg hK])
          have HZO := hid (show nxO s most limit = true from by unfold nxO; simp [hK])
          have HZP := hid (show nxP s most limit = nxA s from by unfold nxP; rw [if_neg hK])
          clear hI
          generalize nxA s = A at *
          generalize nxN s most limit = K at *
          obtain ⟨da, dn, dc⟩ := D
          have hdn : dn = K := HDN.out
          subst hdn
          have HK := hid hK
          have hdz : ((dn : Int) == 0) = false := by simp; omega
          obtain ⟨T, hT⟩ : ∃ T, T = A + dn := ⟨_, rfl⟩
          rw [← hT] at HIN HZS HZF
          have hdl : dn ≤ 1099511627776 := by have := HIN.out; omega
          have hTl : T ≤ y.n := by have := HIN.out; omega
          have hwT : IntKind.i64.wrap ((A : Int) + (dn : Int)) = T := by rw [IntKind.wrap_i64]; omega
          have HT := hid hT
          have HGS := hid (show (goS s A dn).sent = max s.sent T from by rw [hT]; rfl)
          have HGM := hid (show (goS s A dn).ms = rg (fun _ => 1) s.ms A T from by rw [hT]; rfl)
          have HBD := hid (show ∀ b, blk da = some b → ¬ Fp rd x y b from fun b hb e => by have := HFR.out b hb; have := HR.out.lt b e; omega)
          clear hT hK
          go_wp2
          go_loopw [15] (fun i wr => ∃ j : Nat, j ≤ dn ∧ i = .int .i64 j ∧ Hr wr rd room s.sent x y s.fin s.en ∧ Rr wr rd x y s.bs (rg (fun _ => 1) s.ms A (A + j)) ∧ Row wr ⟨da, dn, dc⟩ (nxD s most limit) ∧ Keep (Fp rd x y) w wr) (fun i _ => dn - (intOf i).toNat)
          case atStart => exact ⟨0, Nat.zero_le _, rfl, HRW.out.hd, by rw [Nat.add_zero, rg_none _ _ _ _ (Nat.le_refl _)]; exact HRW.out.rs, HROW.out, Keep.ofQ HQ.out⟩
          case round =>
            obtain ⟨j, hj, rfl, hhj, hrj, hwj, hkj⟩ := hrel
            by_cases hlt : j < dn
            · have hlt' : (j : Int) < (dn : Int) := by omega
              obtain ⟨p, hp⟩ : ∃ p, p = A + j := ⟨_, rfl⟩
              have hpy : p < y.n := by have := HT.out; omega
              have hpy' : (p : Int) < (y.n : Int) := by omega
              have hwp : IntKind.i64.wrap ((A : Int) + (j : Int)) = p := by rw [IntKind.wrap_i64]; omega
              have hwi : IntKind.i64.wrap ((j : Int) + 1) = ((j + 1 : Nat) : Int) := by rw [IntKind.wrap_i64]; omega
              obtain ⟨g, o, eya, hfz, hc⟩ := rown_cells hrj.sm (show 0 < y.n by omega)
              have hcj := hc p hpy
              have fj := hfz (o + p)
              have d3 := hhj.c3
              rw [eya] at d3
              have KC := (Keep.refl (fun k => k = g) wr).setCell g (o + p) (.int .i64 1) (.inl rfl)
              have hgF : Fp rd x y g := .inr (.inr (by rw [eya]; rfl))
              have HKC := hid (hkj.setCell g (o + p) (.int .i64 1) (.inl hgF))
              have HHC := hid (hhj.keep KC (fun e => hrj.e2 (by rw [eya, e]; rfl)))
              have HWC := hid (hwj.keep KC (fun b hb e => HBD.out b hb (by rw [e]; exact hgF)))
              have HRC := hid (show Rr (wr.setCell ⟨g, o + p, none⟩ (.int .i64 1)) rd x y s.bs (rg (fun _ => 1) s.ms A (A + (j + 1))) from by
                have := hrj.mark eya hpy 1
                rw [show A + (j + 1) = p + 1 by omega, ← rg_set (f := fun _ => 1) (by omega) (by omega)]
                rw [← hp] at this
                exact this)
              clear hhj hrj hwj hkj hfz hc eya hj hlt KC hgF hp
              generalize at_ (rg (fun _ => 1) s.ms A (A + j)) p = v at *
              go_wp2
              go_roundw
              case rel => exact ⟨j + 1, by omega, by go_num, HHC.out, HRC.out, HWC.out, HKC.out⟩
              case measure => simp [intOf]; omega
            · obtain rfl : j = dn := by omega
              rw [← HT.out, ← HGM.out] at hrj
              have d1 := hhj.c1
              have d2 := hhj.c2
              have d5 := hhj.c5
              have f1 := hhj.free 1
              have f5 := hhj.free 5
              have hge : decide ((j : Int) < (j : Int)) = false := by simp
              have HHJ := hid hhj
              have HRJ := hid hrj
              have HWJ := hid hwj
              have HKJ := hid hkj
              have HXL := hid hxn
              have HRD := hid HR.out.hd.lt
              have FIN := hid (show ∀ (w' : World), Hr w' rd room (max s.sent T) x y s.fin (if eo s T then 1 else s.en) → Rr w' rd x y s.bs (goS s A j).ms → Rw w' rd x y room (nxS s most limit) from fun w' h1 h2 => by
                rw [HZS.out]
                refine ⟨?_, ?_⟩
                · rw [enS_sent, enS_fin, enS_en, HGS.out]; exact h1
                · rw [enS_bs, enS_ms]; exact h2)
              have FROW := hid (show ∀ (k : Nat) (v : Value), Row (wr.setCell ⟨rd, k, none⟩ v) ⟨da, j, dc⟩ (nxD s most limit) from fun k v => HWJ.out.keep ((Keep.refl (fun q => q = rd) wr).setCell rd k v (.inl rfl)) (fun b hb e => HBD.out b hb (.inl e)))
              have FROW2 := hid (show ∀ (k k2 : Nat) (v v2 : Value), Row ((wr.setCell ⟨rd, k, none⟩ v).setCell ⟨rd, k2, none⟩ v2) ⟨da, j, dc⟩ (nxD s most limit) from fun k k2 v v2 => (FROW.out k v).keep ((Keep.refl (fun q => q = rd) _).setCell rd k2 v2 (.inl rfl)) (fun b hb e => HBD.out b hb (.inl e)))
              clear hhj hrj hwj hkj hj hlt
              by_cases hgt : s.sent < T
              · have hgt' : decide ((s.sent : Int) < (T : Int)) = true := by simp; omega
                have hgt2 : decide (s.sent < T) = true := by simp; omega
                have HMX := hid (show max s.sent T = T by omega)
                clear hgt
                cases hop : opn s
                · have HE := hid (show eo s T = false from by unfold eo; rw [hop]; rfl)
                  clear hop
                  go_wp2
                  (try simp only [Exit.inBlock, Exit.then]); refine bodyPost_ret (results_tmp4 rfl _ _ _) rfl ?_
                  refine ⟨⟨da, j, dc⟩, by rw [HZP.out, HZF.out, HZO.out, HE.out]; rfl, ?_, FROW.out _ _, HFR.out, HKJ.out.setCell rd 1 _ (.inl (.inl rfl))⟩
                  exact FIN.out _ (by rw [HE.out, HMX.out]; exact HHJ.out.sent_ T) (HRJ.out.hd 1 _)
                · by_cases hTe : T = x.n
                  · have HE := hid (show eo s T = true from by unfold eo; rw [hop, hTe, HXL.out]; simp)
                    have hee : ((T : Int) == (x.n : Int)) = true := by simp; omega
                    clear hop hTe hxn hyn
                    go_wp2
                    (try simp only [Exit.inBlock, Exit.then]); refine bodyPost_ret (results_tmp4 rfl _ _ _) rfl ?_
                    refine ⟨⟨da, j, dc⟩, by rw [HZP.out, HZF.out, HZO.out, HE.out]; rfl, ?_, FROW2.out _ _ _ _, HFR.out, (HKJ.out.setCell rd 1 _ (.inl (.inl rfl))).setCell rd 5 _ (.inl (.inl rfl))⟩
                    exact FIN.out _ (by rw [HE.out, HMX.out, if_pos rfl]; exact (HHJ.out.sent_ T).end_ 1) ((HRJ.out.hd 1 _).hd 5 _)
                  · have HE := hid (show eo s T = false from by unfold eo; rw [hop]; simp; omega)
                    have hee : ((T : Int) == (x.n : Int)) = false := by simp; omega
                    clear hop hTe hxn hyn
                    go_wp2
                    (try simp only [Exit.inBlock, Exit.then]); refine bodyPost_ret (results_tmp4 rfl _ _ _) rfl ?_
                    refine ⟨⟨da, j, dc⟩, by rw [HZP.out, HZF.out, HZO.out, HE.out]; rfl, ?_, FROW.out _ _, HFR.out, HKJ.out.setCell rd 1 _ (.inl (.inl rfl))⟩
                    exact FIN.out _ (by rw [HE.out, HMX.out]; exact HHJ.out.sent_ T) (HRJ.out.hd 1 _)
              · have hgt' : decide ((s.sent : Int) < (T : Int)) = false := by simp; omega
                have hgt2 : decide (s.sent < T) = false := by simp; omega
                have HMX := hid (show max s.sent T = s.sent by omega)
                clear hgt
                cases hop : opn s
                · have HE := hid (show eo s T = false from by unfold eo; rw [hop]; rfl)
                  clear hop
                  go_wp2
                  (try simp only [Exit.inBlock, Exit.then]); refine bodyPost_ret (results_tmp4 rfl _ _ _) rfl ?_
                  refine ⟨⟨da, j, dc⟩, by rw [HZP.out, HZF.out, HZO.out, HE.out]; rfl, ?_, HWJ.out, HFR.out, HKJ.out⟩
                  exact FIN.out _ (by rw [HE.out, HMX.out]; exact HHJ.out) HRJ.out
                · by_cases hTe : T = x.n
                  · have HE := hid (show eo s T = true from by unfold eo; rw [hop, hTe, HXL.out]; simp)
                    have hee : ((T : Int) == (x.n : Int)) = true := by simp; omega
                    clear hop hTe hxn hyn
                    go_wp2
                    (try simp only [Exit.inBlock, Exit.then]); refine bodyPost_ret (results_tmp4 rfl _ _ _) rfl ?_
                    refine ⟨⟨da, j, dc⟩, by rw [HZP.out, HZF.out, HZO.out, HE.out]; rfl, ?_, FROW.out _ _, HFR.out, HKJ.out.setCell rd 5 _ (.inl (.inl rfl))⟩
                    exact FIN.out _ (by rw [HE.out, HMX.out, if_pos rfl]; exact HHJ.out.end_ 1) (HRJ.out.hd 5 _)
                  · have HE := hid (show eo s T = false from by unfold eo; rw [hop]; simp; omega)
                    have hee : ((T : Int) == (x.n : Int)) = false := by simp; omega
                    clear hop hTe hxn hyn
                    go_wp2
                    (try simp only [Exit.inBlock, Exit.then]); refine bodyPost_ret (results_tmp4 rfl _ _ _) rfl ?_
                    refine ⟨⟨da, j, dc⟩, by rw [HZP.out, HZF.out, HZO.out, HE.out]; rfl, ?_, HWJ.out, HFR.out, HKJ.out⟩
                    exact FIN.out _ (by rw [HE.out, HMX.out]; exact HHJ.out) HRJ.out
end Go.Proofs.Ytppemfdoogmeeaa
