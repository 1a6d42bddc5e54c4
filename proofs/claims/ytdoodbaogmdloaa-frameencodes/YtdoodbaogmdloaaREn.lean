/-
  What the document's own Encode does: a contract that the statements' walks use.
-/
import Derived.Test.YtdoodbaogmdloaaREnM
import Derived.Deep.Cut
import Derived.Deep.CutRange
namespace Go.Proofs.Ytdoodbaogmdloaa
open Go.RowKit
set_option linter.unusedVariables false
set_option maxRecDepth 20000

set_option maxHeartbeats 1000000 in
theorem rencode_no (f : Fr) (d c s : Sv) (w : World) (h : Holds w f d c s) (he : chk f ≠ 0) :
    Calls Try.prog 12 #[fv f d c s] w fun e w' => e = .returned (.tuple #[.slice none 0 0, .int .i64 (chk f)]) ∧ Q w w' := by
  have HH := hid h
  have hb : (chk f != 0) = true := by simp [he]
  clear h he
  go_enter Try.func12, Try.ntmps12
  go_wp2_with fail
  refine (rcheck_any f d c s _ (HH.out.q ((Q.refl w).alloc _))).mono ?_
  rintro e w1 ⟨rfl, hq⟩
  have HQ := hid (((Q.refl w).alloc _).trans hq)
  clear hq
  go_wp2
  go_ret2
  exact ⟨rfl, HQ.out⟩

set_option maxHeartbeats 1000000 in
theorem rencode_0 (f : Fr) (n : Nat) (d c s : Sv) (w : World) (hk : f.kind = 0) (hnum : f.num = n) (hn0 : 0 < n) (hn1 : n ≤ 16384) (h : Holds w f d c s) (he : chk f = 0) :
    Calls Try.prog 12 #[fv f d c s] w fun e w' => ∃ r : Sv, e = .returned (.tuple #[.slice r.a r.n r.c, .int .i64 0]) ∧ Made w w' r (List.replicate n 0) := by
  obtain ⟨i0, hi, hz0, hz1, hz2⟩ := info_parts info5
  have HH := hid h
  have HE := hid he
  have HK := hid hk
  have HNUM := hid hnum
  clear h he hk hnum
  go_enter Try.func12, Try.ntmps12
  go_wp2_with fail
  refine (rcheck_any f d c s _ (HH.out.q ((Q.refl w).alloc _))).mono ?_
  rintro e w1 ⟨rfl, hq⟩
  rw [HE.out]
  have hbx : Box w1 34 w.heap.size f d c s := Box.q (w := w.alloc _) (heap_alloc_new w _) hq
  have c0 := hbx.c0
  have c3 := hbx.c3
  rw [HK.out] at c0
  rw [HNUM.out] at c3
  have HQ := hid (((Q.refl w).alloc _).trans hq)
  clear hq hbx
  go_wp2_with (at_make; refine wpList_make_full _ rfl _ _ 22 rfl w1.heap.size 5 i0 (.int .u8 0) 1 Try.underlying22 hi hz0 hz1 .i64 .i64 _ _ n rfl rfl rfl rfl (by rw [hz2]; omega) (by unfold maxLen; omega) (Nat.le_refl _) ?_; intro w2 hown hgr)
  rw [made_zero] at hown
  have HM := hid (made_new hown hgr rfl)
  clear hown hgr
  go_ret2
  exact ⟨⟨some ⟨w1.heap.size, 0, none⟩, n, n⟩, rfl, HQ.out.trans HM.out.1, HM.out.2.1, HM.out.2.2.mono HQ.out.size⟩

/-- The marks' bytes, one by one. -/
def mk3 (f : Fr) (i : Nat) : List Int := forms ([f.e0, f.e1, f.e2].take i)
set_option maxHeartbeats 16000000 in
theorem rencode_r (f : Fr) (d c s : Sv) (w : World) (h0 : f.kind ≠ 0) (h : Holds w f d c s) (he : chk f = 0) :
    Calls Try.prog 12 #[fv f d c s] w fun e w' => ∃ r : Sv, e = .returned (.tuple #[.slice r.a r.n r.c, .int .i64 0]) ∧ Made w w' r (enc f) := by
  have hk := (chk_ok he).1
  have hd16 := (chk_ok he).2.1
  have hkr := kdr_range hk
  have hL4 := itL_len4 hk
  have HDN := hid (show d.n ≤ 16384 from by rw [← h.dl]; exact hd16)
  have HH := hid h
  have HE := hid he
  have PK := hid (fun (u : World) => rput_k (kdr f) u hkr.1 hkr.2)
  have HALL := hid (pre_all hk h0)
  have HLT := hid (let_in hk)
  have HPL := hid (pre_len he)
  have HOK := hid (fun (j : Nat) (hj : j < (itL f.kind).length) => let_ok he (c := (itL f.kind)[j]) (List.getElem_mem hj))
  have HPS := hid (fun (j : Nat) (hj : j < (itL f.kind).length) => pre_succ (f := f) hj)
  have HKD := hid (show kdr f = if f.kind = 8 then (if 0 < f.pl then 14 else 10) + (if f.fin then 1 else 0) else f.kind from rfl)
  have P0 := hid (show pre f 0 = form (kdr f) from by simp [pre])
  have HKK := hid hk
  have b0 : (f.kind == 0) = false := by simpa using h0
  clear hk hd16 hkr h0 h he
  generalize hl : itL f.kind = l at *
  have HL := hid hl
  clear hl
  have hsz : (ByteArray.mk l.toArray).size = l.length := rfl
  generalize hkd : kdr f = kr at *
  clear hkd
  go_enter Try.func12, Try.ntmps12
  go_wp2_with fail
  generalize hw0 : World.alloc w _ = wb
  have Qb := hid (show Q w wb from by rw [← hw0]; exact (Q.refl w).alloc _)
  have HBb := hid (show Box wb 34 w.heap.size f d c s from by rw [← hw0]; exact heap_alloc_new w _)
  clear hw0
  refine (rcheck_any f d c s _ (HH.out.q Qb.out)).mono ?_
  rintro e w0 ⟨rfl, hq⟩
  rw [HE.out]
  have Q0 := hid (Qb.out.trans hq)
  have HB0 := hid (Box.q HBb.out hq)
  have HH0 := hid (HH.out.q (Qb.out.trans hq))
  clear hq
  obtain ⟨e0, e1, e2, e3, e4, e5, e6, e7, e8, e9, e10, e11, e12⟩ := Box.all HB0.out
  go_wp2_with fail
  refine (ritems_any f.kind _).mono ?_
  rintro e w1 ⟨rfl, hw1⟩
  rw [HL.out]
  subst hw1
  go_upto_if 31 with fail
  go_cut [7] from 32 (fun v wc => v = .int .i64 kr ∧ w0 = wc)
  case first =>
    by_cases k8 : f.kind = 8
    · have b8 : (f.kind == 8) = true := by simp [k8]
      by_cases hp : 0 < f.pl
      · have d8 : decide (0 < f.pl) = true := by simp [hp]
        rcases Bool.eq_false_or_eq_true f.fin with hf | hf
        · rw [hf] at e5
          have VV := hid (show (15 : Int) = kr from by rw [HKD.out, if_pos k8, if_pos hp, hf]; rfl)
          clear k8 hp hf
          go_wp2_with fail
          go_meet
          case rel => exact ⟨by rw [← VV.out], rfl⟩
        · rw [hf] at e5
          have VV := hid (show (14 : Int) = kr from by rw [HKD.out, if_pos k8, if_pos hp, hf]; rfl)
          clear k8 hp hf
          go_wp2_with fail
          go_meet
          case rel => exact ⟨by rw [← VV.out], rfl⟩
      · have d8 : decide (0 < f.pl) = false := by simp; omega
        rcases Bool.eq_false_or_eq_true f.fin with hf | hf
        · rw [hf] at e5
          have VV := hid (show (11 : Int) = kr from by rw [HKD.out, if_pos k8, if_neg hp, hf]; rfl)
          clear k8 hp hf
          go_wp2_with fail
          go_meet
          case rel => exact ⟨by rw [← VV.out], rfl⟩
        · rw [hf] at e5
          have VV := hid (show (10 : Int) = kr from by rw [HKD.out, if_pos k8, if_neg hp, hf]; rfl)
          clear k8 hp hf
          go_wp2_with fail
          go_meet
          case rel => exact ⟨by rw [← VV.out], rfl⟩
    · have b8 : (f.kind == 8) = false := by simpa using k8
      have VV := hid (show f.kind = kr from by rw [HKD.out, if_neg k8])
      clear k8
      go_wp2_with fail
      go_meet
      case rel => exact ⟨by rw [VV.out], rfl⟩
  case rest =>
    obtain ⟨rfl, hw⟩ := hcut
    subst hw
    go_wp2_with fail
    refine (PK.out _).mono ?_
    rintro e w2 ⟨p, rfl, q2, r2, n2⟩
    have E0 := hid (show EI w0 w2 p (pre f 0) from by rw [P0.out]; exact ⟨q2, r2, n2⟩)
    clear q2 r2 n2 e0 e1 e2 e3 e4 e5 e6 e7 e8 e9 e10 e11 e12
    go_wp2_with fail
    go_loopw [8, 9] (fun ov kv wr => ∃ (j : Nat) (x : Sv), j ≤ l.length ∧ kv = .int .i64 j ∧ ov = .slice x.a x.n x.c ∧ EI w0 wr x (pre f j)) (fun _ kv _ => ((l.length : Int) - intOf kv).toNat)
    case atStart => exact ⟨0, p, Nat.zero_le _, rfl, rfl, E0.out⟩
    case round =>
      obtain ⟨j, ⟨xa, xn, xc⟩, hj, rfl, rfl, hI⟩ := hrel
      have HI := hid hI
      by_cases hjl : j < l.length
      · have hji : (j : Int) < (l.length : Int) := by omega
        have hwj : IntKind.i64.wrap ((j : Int) + 1) = ((j + 1 : Nat) : Int) := by rw [IntKind.wrap_i64]; omega
        have HPJ := hid (HPS.out j hjl)
        have OKL := hid (HOK.out j hjl)
        have HZL := hid (show (pre f j).length ≤ 80008 from by have := HPL.out j hj; omega)
        obtain ⟨e0, e1, e2, e3, e4, e5, e6, e7, e8, e9, e10, e11, e12⟩ := Box.all (Box.q HB0.out hI.q)
        clear hI
        have hin := HLT.out l[j] (List.getElem_mem hjl)
        rcases hin with hc | hc | hc | hc | hc | hc | hc | hc | hc | hc
        · have HC := hid hc
          have b105 : (((ByteArray.mk l.toArray)[j].toNat : Int) == 105) = true := by rw [show (ByteArray.mk l.toArray)[j] = l[j] from rfl, hc]; rfl
          have b97 : (((ByteArray.mk l.toArray)[j].toNat : Int) == 97) = false := by rw [show (ByteArray.mk l.toArray)[j] = l[j] from rfl, hc]; rfl
          have b110 : (((ByteArray.mk l.toArray)[j].toNat : Int) == 110) = false := by rw [show (ByteArray.mk l.toArray)[j] = l[j] from rfl, hc]; rfl
          have b99 : (((ByteArray.mk l.toArray)[j].toNat : Int) == 99) = false := by rw [show (ByteArray.mk l.toArray)[j] = l[j] from rfl, hc]; rfl
          have b100 : (((ByteArray.mk l.toArray)[j].toNat : Int) == 100) = false := by rw [show (ByteArray.mk l.toArray)[j] = l[j] from rfl, hc]; rfl
          have b107 : (((ByteArray.mk l.toArray)[j].toNat : Int) == 107) = false := by rw [show (ByteArray.mk l.toArray)[j] = l[j] from rfl, hc]; rfl
          have b116 : (((ByteArray.mk l.toArray)[j].toNat : Int) == 116) = false := by rw [show (ByteArray.mk l.toArray)[j] = l[j] from rfl, hc]; rfl
          have b112 : (((ByteArray.mk l.toArray)[j].toNat : Int) == 112) = false := by rw [show (ByteArray.mk l.toArray)[j] = l[j] from rfl, hc]; rfl
          have b115 : (((ByteArray.mk l.toArray)[j].toNat : Int) == 115) = false := by rw [show (ByteArray.mk l.toArray)[j] = l[j] from rfl, hc]; rfl
          have b101 : (((ByteArray.mk l.toArray)[j].toNat : Int) == 101) = false := by rw [show (ByteArray.mk l.toArray)[j] = l[j] from rfl, hc]; rfl
          have HIT := hid (show itB f l[j] = form f.id from by rw [hc]; rfl)
          clear hc
          go_wp2_with fail
          refine (rput_k f.id _ (OKL.out.id HC.out).1 (OKL.out.id HC.out).2).mono ?_
          rintro e wp2 ⟨p2, rfl, q2, r2, n2⟩
          have L2 := form_len8 (f.id)
          obtain ⟨⟨xa2, xn2, xc2⟩, wa2, hr2, I2⟩ := (HI.out.qr q2).app r2.seg r2.len (by have := HZL.out; first | omega | (simp only [List.length_append]; omega))
          have E2 := hid I2
          clear q2 r2 n2 I2 L2
          go_wp2_with (at_builtin; refine Lib.wpList_append_run _ rfl _ _ _ _ rfl _ _ rfl rfl _ _ hr2 ?_)
          clear hr2
          go_roundw
          case rel => exact ⟨j + 1, _, by omega, by go_num, rfl, by rw [HPJ.out, HIT.out]; exact E2.out⟩
          case measure => simp [intOf]; omega
        · have HC := hid hc
          have b105 : (((ByteArray.mk l.toArray)[j].toNat : Int) == 105) = false := by rw [show (ByteArray.mk l.toArray)[j] = l[j] from rfl, hc]; rfl
          have b97 : (((ByteArray.mk l.toArray)[j].toNat : Int) == 97) = true := by rw [show (ByteArray.mk l.toArray)[j] = l[j] from rfl, hc]; rfl
          have b110 : (((ByteArray.mk l.toArray)[j].toNat : Int) == 110) = false := by rw [show (ByteArray.mk l.toArray)[j] = l[j] from rfl, hc]; rfl
          have b99 : (((ByteArray.mk l.toArray)[j].toNat : Int) == 99) = false := by rw [show (ByteArray.mk l.toArray)[j] = l[j] from rfl, hc]; rfl
          have b100 : (((ByteArray.mk l.toArray)[j].toNat : Int) == 100) = false := by rw [show (ByteArray.mk l.toArray)[j] = l[j] from rfl, hc]; rfl
          have b107 : (((ByteArray.mk l.toArray)[j].toNat : Int) == 107) = false := by rw [show (ByteArray.mk l.toArray)[j] = l[j] from rfl, hc]; rfl
          have b116 : (((ByteArray.mk l.toArray)[j].toNat : Int) == 116) = false := by rw [show (ByteArray.mk l.toArray)[j] = l[j] from rfl, hc]; rfl
          have b112 : (((ByteArray.mk l.toArray)[j].toNat : Int) == 112) = false := by rw [show (ByteArray.mk l.toArray)[j] = l[j] from rfl, hc]; rfl
          have b115 : (((ByteArray.mk l.toArray)[j].toNat : Int) == 115) = false := by rw [show (ByteArray.mk l.toArray)[j] = l[j] from rfl, hc]; rfl
          have b101 : (((ByteArray.mk l.toArray)[j].toNat : Int) == 101) = false := by rw [show (ByteArray.mk l.toArray)[j] = l[j] from rfl, hc]; rfl
          by_cases k8 : f.kind = 8
          · have n8 : (f.kind != 8) = false := by simp [k8]
            by_cases hp : 0 < f.pl
            · have d8 : decide (0 < f.pl) = true := by simp [hp]
              have HIT := hid (show itB f l[j] = form f.pl from by rw [hc]; unfold itB; rw [if_neg (by decide), if_pos rfl, if_pos (.inr hp)])
              clear hc k8 hp
              go_wp2_with fail
              refine (rput_k f.pl _ (OKL.out.pl HC.out).1 (OKL.out.pl HC.out).2).mono ?_
              rintro e wp2 ⟨p2, rfl, q2, r2, n2⟩
              have L2 := form_len8 (f.pl)
              obtain ⟨⟨xa2, xn2, xc2⟩, wa2, hr2, I2⟩ := (HI.out.qr q2).app r2.seg r2.len (by have := HZL.out; first | omega | (simp only [List.length_append]; omega))
              have E2 := hid I2
              clear q2 r2 n2 I2 L2
              go_wp2_with (at_builtin; refine Lib.wpList_append_run _ rfl _ _ _ _ rfl _ _ rfl rfl _ _ hr2 ?_)
              clear hr2
              go_roundw
              case rel => exact ⟨j + 1, _, by omega, by go_num, rfl, by rw [HPJ.out, HIT.out]; exact E2.out⟩
              case measure => simp [intOf]; omega
            · have d8 : decide (0 < f.pl) = false := by simp; omega
              have HIT := hid (show itB f l[j] = [] from by rw [hc]; unfold itB; rw [if_neg (by decide), if_pos rfl, if_neg (by omega)])
              clear hc k8 hp
              go_wp2
              go_roundw
              case rel => exact ⟨j + 1, _, by omega, by go_num, rfl, by rw [HPJ.out, HIT.out]; rw [List.append_nil]; exact HI.out⟩
              case measure => simp [intOf]; omega
          · have n8 : (f.kind != 8) = true := by simp [k8]
            have HIT := hid (show itB f l[j] = form f.pl from by rw [hc]; unfold itB; rw [if_neg (by decide), if_pos rfl, if_pos (.inl k8)])
            clear hc k8
            go_wp2_with fail
            refine (rput_k f.pl _ (OKL.out.pl HC.out).1 (OKL.out.pl HC.out).2).mono ?_
            rintro e wp2 ⟨p2, rfl, q2, r2, n2⟩
            have L2 := form_len8 (f.pl)
            obtain ⟨⟨xa2, xn2, xc2⟩, wa2, hr2, I2⟩ := (HI.out.qr q2).app r2.seg r2.len (by have := HZL.out; first | omega | (simp only [List.length_append]; omega))
            have E2 := hid I2
            clear q2 r2 n2 I2 L2
            go_wp2_with (at_builtin; refine Lib.wpList_append_run _ rfl _ _ _ _ rfl _ _ rfl rfl _ _ hr2 ?_)
            clear hr2
            go_roundw
            case rel => exact ⟨j + 1, _, by omega, by go_num, rfl, by rw [HPJ.out, HIT.out]; exact E2.out⟩
            case measure => simp [intOf]; omega
        · have HC := hid hc
          have b105 : (((ByteArray.mk l.toArray)[j].toNat : Int) == 105) = false := by rw [show (ByteArray.mk l.toArray)[j] = l[j] from rfl, hc]; rfl
          have b97 : (((ByteArray.mk l.toArray)[j].toNat : Int) == 97) = false := by rw [show (ByteArray.mk l.toArray)[j] = l[j] from rfl, hc]; rfl
          have b110 : (((ByteArray.mk l.toArray)[j].toNat : Int) == 110) = true := by rw [show (ByteArray.mk l.toArray)[j] = l[j] from rfl, hc]; rfl
          have b99 : (((ByteArray.mk l.toArray)[j].toNat : Int) == 99) = false := by rw [show (ByteArray.mk l.toArray)[j] = l[j] from rfl, hc]; rfl
          have b100 : (((ByteArray.mk l.toArray)[j].toNat : Int) == 100) = false := by rw [show (ByteArray.mk l.toArray)[j] = l[j] from rfl, hc]; rfl
          have b107 : (((ByteArray.mk l.toArray)[j].toNat : Int) == 107) = false := by rw [show (ByteArray.mk l.toArray)[j] = l[j] from rfl, hc]; rfl
          have b116 : (((ByteArray.mk l.toArray)[j].toNat : Int) == 116) = false := by rw [show (ByteArray.mk l.toArray)[j] = l[j] from rfl, hc]; rfl
          have b112 : (((ByteArray.mk l.toArray)[j].toNat : Int) == 112) = false := by rw [show (ByteArray.mk l.toArray)[j] = l[j] from rfl, hc]; rfl
          have b115 : (((ByteArray.mk l.toArray)[j].toNat : Int) == 115) = false := by rw [show (ByteArray.mk l.toArray)[j] = l[j] from rfl, hc]; rfl
          have b101 : (((ByteArray.mk l.toArray)[j].toNat : Int) == 101) = false := by rw [show (ByteArray.mk l.toArray)[j] = l[j] from rfl, hc]; rfl
          have HIT := hid (show itB f l[j] = form f.num from by rw [hc]; rfl)
          clear hc
          go_wp2_with fail
          refine (rput_k f.num _ (OKL.out.num HC.out).1 (OKL.out.num HC.out).2).mono ?_
          rintro e wp2 ⟨p2, rfl, q2, r2, n2⟩
          have L2 := form_len8 (f.num)
          obtain ⟨⟨xa2, xn2, xc2⟩, wa2, hr2, I2⟩ := (HI.out.qr q2).app r2.seg r2.len (by have := HZL.out; first | omega | (simp only [List.length_append]; omega))
          have E2 := hid I2
          clear q2 r2 n2 I2 L2
          go_wp2_with (at_builtin; refine Lib.wpList_append_run _ rfl _ _ _ _ rfl _ _ rfl rfl _ _ hr2 ?_)
          clear hr2
          go_roundw
          case rel => exact ⟨j + 1, _, by omega, by go_num, rfl, by rw [HPJ.out, HIT.out]; exact E2.out⟩
          case measure => simp [intOf]; omega
        · have HC := hid hc
          have b105 : (((ByteArray.mk l.toArray)[j].toNat : Int) == 105) = false := by rw [show (ByteArray.mk l.toArray)[j] = l[j] from rfl, hc]; rfl
          have b97 : (((ByteArray.mk l.toArray)[j].toNat : Int) == 97) = false := by rw [show (ByteArray.mk l.toArray)[j] = l[j] from rfl, hc]; rfl
          have b110 : (((ByteArray.mk l.toArray)[j].toNat : Int) == 110) = false := by rw [show (ByteArray.mk l.toArray)[j] = l[j] from rfl, hc]; rfl
          have b99 : (((ByteArray.mk l.toArray)[j].toNat : Int) == 99) = true := by rw [show (ByteArray.mk l.toArray)[j] = l[j] from rfl, hc]; rfl
          have b100 : (((ByteArray.mk l.toArray)[j].toNat : Int) == 100) = false := by rw [show (ByteArray.mk l.toArray)[j] = l[j] from rfl, hc]; rfl
          have b107 : (((ByteArray.mk l.toArray)[j].toNat : Int) == 107) = false := by rw [show (ByteArray.mk l.toArray)[j] = l[j] from rfl, hc]; rfl
          have b116 : (((ByteArray.mk l.toArray)[j].toNat : Int) == 116) = false := by rw [show (ByteArray.mk l.toArray)[j] = l[j] from rfl, hc]; rfl
          have b112 : (((ByteArray.mk l.toArray)[j].toNat : Int) == 112) = false := by rw [show (ByteArray.mk l.toArray)[j] = l[j] from rfl, hc]; rfl
          have b115 : (((ByteArray.mk l.toArray)[j].toNat : Int) == 115) = false := by rw [show (ByteArray.mk l.toArray)[j] = l[j] from rfl, hc]; rfl
          have b101 : (((ByteArray.mk l.toArray)[j].toNat : Int) == 101) = false := by rw [show (ByteArray.mk l.toArray)[j] = l[j] from rfl, hc]; rfl
          have HIT := hid (show itB f l[j] = form f.code from by rw [hc]; rfl)
          clear hc
          go_wp2_with fail
          refine (rput_k f.code _ (OKL.out.code HC.out).1 (OKL.out.code HC.out).2).mono ?_
          rintro e wp2 ⟨p2, rfl, q2, r2, n2⟩
          have L2 := form_len8 (f.code)
          obtain ⟨⟨xa2, xn2, xc2⟩, wa2, hr2, I2⟩ := (HI.out.qr q2).app r2.seg r2.len (by have := HZL.out; first | omega | (simp only [List.length_append]; omega))
          have E2 := hid I2
          clear q2 r2 n2 I2 L2
          go_wp2_with (at_builtin; refine Lib.wpList_append_run _ rfl _ _ _ _ rfl _ _ rfl rfl _ _ hr2 ?_)
          clear hr2
          go_roundw
          case rel => exact ⟨j + 1, _, by omega, by go_num, rfl, by rw [HPJ.out, HIT.out]; exact E2.out⟩
          case measure => simp [intOf]; omega
        · have HC := hid hc
          have b105 : (((ByteArray.mk l.toArray)[j].toNat : Int) == 105) = false := by rw [show (ByteArray.mk l.toArray)[j] = l[j] from rfl, hc]; rfl
          have b97 : (((ByteArray.mk l.toArray)[j].toNat : Int) == 97) = false := by rw [show (ByteArray.mk l.toArray)[j] = l[j] from rfl, hc]; rfl
          have b110 : (((ByteArray.mk l.toArray)[j].toNat : Int) == 110) = false := by rw [show (ByteArray.mk l.toArray)[j] = l[j] from rfl, hc]; rfl
          have b99 : (((ByteArray.mk l.toArray)[j].toNat : Int) == 99) = false := by rw [show (ByteArray.mk l.toArray)[j] = l[j] from rfl, hc]; rfl
          have b100 : (((ByteArray.mk l.toArray)[j].toNat : Int) == 100) = true := by rw [show (ByteArray.mk l.toArray)[j] = l[j] from rfl, hc]; rfl
          have b107 : (((ByteArray.mk l.toArray)[j].toNat : Int) == 107) = false := by rw [show (ByteArray.mk l.toArray)[j] = l[j] from rfl, hc]; rfl
          have b116 : (((ByteArray.mk l.toArray)[j].toNat : Int) == 116) = false := by rw [show (ByteArray.mk l.toArray)[j] = l[j] from rfl, hc]; rfl
          have b112 : (((ByteArray.mk l.toArray)[j].toNat : Int) == 112) = false := by rw [show (ByteArray.mk l.toArray)[j] = l[j] from rfl, hc]; rfl
          have b115 : (((ByteArray.mk l.toArray)[j].toNat : Int) == 115) = false := by rw [show (ByteArray.mk l.toArray)[j] = l[j] from rfl, hc]; rfl
          have b101 : (((ByteArray.mk l.toArray)[j].toNat : Int) == 101) = false := by rw [show (ByteArray.mk l.toArray)[j] = l[j] from rfl, hc]; rfl
          have HIT := hid (show itB f l[j] = form f.data.length ++ f.data from by rw [hc]; rfl)
          clear hc
          have HDL := hid HH0.out.dl
          go_wp2_with fail
          refine (rput_k (d.n : Int) _ (show (0 : Int) ≤ d.n ∧ (d.n : Int) ≤ 4611686018427387903 from by have := HDN.out; omega).1 (show (0 : Int) ≤ d.n ∧ (d.n : Int) ≤ 4611686018427387903 from by have := HDN.out; omega).2).mono ?_
          rintro e wp2 ⟨p2, rfl, q2, r2, n2⟩
          have L2 := form_len8 ((d.n : Int))
          obtain ⟨⟨xa2, xn2, xc2⟩, wa2, hr2, I2⟩ := (HI.out.qr q2).app r2.seg r2.len (by have := HZL.out; first | omega | (simp only [List.length_append]; omega))
          have E2 := hid I2
          clear q2 r2 n2 I2 L2
          have c6 := (Box.q HB0.out E2.out.q).c6
          obtain ⟨x3, w3, hr3, I3⟩ := E2.out.app (y := d) (HH0.out.ds.q E2.out.q) HH0.out.dl (by have := HZL.out; have := HDN.out; have := form_len8 (d.n : Int); have := HDL.out; first | omega | (simp only [List.length_append]; omega))
          have E3 := hid I3
          clear I3
          go_upto_region 30 with (at_builtin; refine Lib.wpList_append_run _ rfl _ _ _ _ rfl _ _ rfl rfl _ _ hr2 ?_)
          clear hr2
          go_wp2_with (at_builtin; refine Lib.wpList_append_run _ rfl _ _ _ _ rfl _ _ rfl rfl _ _ hr3 ?_)
          go_roundw
          case rel => exact ⟨j + 1, _, by omega, by go_num, rfl, by rw [HPJ.out, HIT.out]; rw [HDL.out, ← List.append_assoc]; exact E3.out⟩
          case measure => simp [intOf]; omega
        · have HC := hid hc
          have b105 : (((ByteArray.mk l.toArray)[j].toNat : Int) == 105) = false := by rw [show (ByteArray.mk l.toArray)[j] = l[j] from rfl, hc]; rfl
          have b97 : (((ByteArray.mk l.toArray)[j].toNat : Int) == 97) = false := by rw [show (ByteArray.mk l.toArray)[j] = l[j] from rfl, hc]; rfl
          have b110 : (((ByteArray.mk l.toArray)[j].toNat : Int) == 110) = false := by rw [show (ByteArray.mk l.toArray)[j] = l[j] from rfl, hc]; rfl
          have b99 : (((ByteArray.mk l.toArray)[j].toNat : Int) == 99) = false := by rw [show (ByteArray.mk l.toArray)[j] = l[j] from rfl, hc]; rfl
          have b100 : (((ByteArray.mk l.toArray)[j].toNat : Int) == 100) = false := by rw [show (ByteArray.mk l.toArray)[j] = l[j] from rfl, hc]; rfl
          have b107 : (((ByteArray.mk l.toArray)[j].toNat : Int) == 107) = true := by rw [show (ByteArray.mk l.toArray)[j] = l[j] from rfl, hc]; rfl
          have b116 : (((ByteArray.mk l.toArray)[j].toNat : Int) == 116) = false := by rw [show (ByteArray.mk l.toArray)[j] = l[j] from rfl, hc]; rfl
          have b112 : (((ByteArray.mk l.toArray)[j].toNat : Int) == 112) = false := by rw [show (ByteArray.mk l.toArray)[j] = l[j] from rfl, hc]; rfl
          have b115 : (((ByteArray.mk l.toArray)[j].toNat : Int) == 115) = false := by rw [show (ByteArray.mk l.toArray)[j] = l[j] from rfl, hc]; rfl
          have b101 : (((ByteArray.mk l.toArray)[j].toNat : Int) == 101) = false := by rw [show (ByteArray.mk l.toArray)[j] = l[j] from rfl, hc]; rfl
          have HIT := hid (show itB f l[j] = [(f.cid.length : Int)] ++ f.cid from by rw [hc]; rfl)
          clear hc
          have HCL := hid HH0.out.cl
          have hcn : c.n ≤ 20 := by rw [← HCL.out]; exact OKL.out.cid HC.out
          have hwc : IntKind.u8.wrap (c.n : Int) = (c.n : Int) := by simp [IntKind.wrap, IntKind.bits, IntKind.signed]; omega
          obtain ⟨⟨xa2, xn2, xc2⟩, w2, hr2, I2⟩ := (HI.out.qr ((Q.refl wr).alloc (.cells #[.int .u8 (c.n : Int)] 5))).app (y := ⟨some ⟨wr.heap.size, 0, none⟩, 1, 1⟩) (ys := [(c.n : Int)]) (seg_new wr [(c.n : Int)]) rfl (by have := HZL.out; simp only [List.length_cons, List.length_nil]; omega)
          have E2 := hid I2
          have c7 := (Box.q HB0.out E2.out.q).c7
          obtain ⟨x3, w3, hr3, I3⟩ := E2.out.app (y := c) (HH0.out.cs.q E2.out.q) HH0.out.cl (by have := HZL.out; have := HCL.out; first | omega | (simp only [List.length_append, List.length_cons, List.length_nil]; omega))
          have E3 := hid I3
          clear I3 I2
          go_upto_region 33 with (at_builtin; refine Lib.wpList_append_run _ rfl _ _ _ _ rfl _ _ rfl rfl _ _ hr2 ?_)
          clear hr2
          go_wp2_with (at_builtin; refine Lib.wpList_append_run _ rfl _ _ _ _ rfl _ _ rfl rfl _ _ hr3 ?_)
          go_roundw
          case rel => exact ⟨j + 1, _, by omega, by go_num, rfl, by rw [HPJ.out, HIT.out]; rw [HCL.out, ← List.append_assoc]; exact E3.out⟩
          case measure => simp [intOf]; omega
        · have HC := hid hc
          have b105 : (((ByteArray.mk l.toArray)[j].toNat : Int) == 105) = false := by rw [show (ByteArray.mk l.toArray)[j] = l[j] from rfl, hc]; rfl
          have b97 : (((ByteArray.mk l.toArray)[j].toNat : Int) == 97) = false := by rw [show (ByteArray.mk l.toArray)[j] = l[j] from rfl, hc]; rfl
          have b110 : (((ByteArray.mk l.toArray)[j].toNat : Int) == 110) = false := by rw [show (ByteArray.mk l.toArray)[j] = l[j] from rfl, hc]; rfl
          have b99 : (((ByteArray.mk l.toArray)[j].toNat : Int) == 99) = false := by rw [show (ByteArray.mk l.toArray)[j] = l[j] from rfl, hc]; rfl
          have b100 : (((ByteArray.mk l.toArray)[j].toNat : Int) == 100) = false := by rw [show (ByteArray.mk l.toArray)[j] = l[j] from rfl, hc]; rfl
          have b107 : (((ByteArray.mk l.toArray)[j].toNat : Int) == 107) = false := by rw [show (ByteArray.mk l.toArray)[j] = l[j] from rfl, hc]; rfl
          have b116 : (((ByteArray.mk l.toArray)[j].toNat : Int) == 116) = true := by rw [show (ByteArray.mk l.toArray)[j] = l[j] from rfl, hc]; rfl
          have b112 : (((ByteArray.mk l.toArray)[j].toNat : Int) == 112) = false := by rw [show (ByteArray.mk l.toArray)[j] = l[j] from rfl, hc]; rfl
          have b115 : (((ByteArray.mk l.toArray)[j].toNat : Int) == 115) = false := by rw [show (ByteArray.mk l.toArray)[j] = l[j] from rfl, hc]; rfl
          have b101 : (((ByteArray.mk l.toArray)[j].toNat : Int) == 101) = false := by rw [show (ByteArray.mk l.toArray)[j] = l[j] from rfl, hc]; rfl
          have HIT := hid (show itB f l[j] = f.data from by rw [hc]; rfl)
          clear hc
          have HDL := hid HH0.out.dl
          obtain ⟨x3, w3, hr3, I3⟩ := HI.out.app (y := d) (HH0.out.ds.q HI.out.q) HH0.out.dl (by have := HZL.out; have := HDN.out; have := HDL.out; omega)
          have E3 := hid I3
          clear I3
          go_wp2_with (at_builtin; refine Lib.wpList_append_run _ rfl _ _ _ _ rfl _ _ rfl rfl _ _ hr3 ?_)
          go_roundw
          case rel => exact ⟨j + 1, _, by omega, by go_num, rfl, by rw [HPJ.out, HIT.out]; exact E3.out⟩
          case measure => simp [intOf]; omega
        · have HC := hid hc
          have b105 : (((ByteArray.mk l.toArray)[j].toNat : Int) == 105) = false := by rw [show (ByteArray.mk l.toArray)[j] = l[j] from rfl, hc]; rfl
          have b97 : (((ByteArray.mk l.toArray)[j].toNat : Int) == 97) = false := by rw [show (ByteArray.mk l.toArray)[j] = l[j] from rfl, hc]; rfl
          have b110 : (((ByteArray.mk l.toArray)[j].toNat : Int) == 110) = false := by rw [show (ByteArray.mk l.toArray)[j] = l[j] from rfl, hc]; rfl
          have b99 : (((ByteArray.mk l.toArray)[j].toNat : Int) == 99) = false := by rw [show (ByteArray.mk l.toArray)[j] = l[j] from rfl, hc]; rfl
          have b100 : (((ByteArray.mk l.toArray)[j].toNat : Int) == 100) = false := by rw [show (ByteArray.mk l.toArray)[j] = l[j] from rfl, hc]; rfl
          have b107 : (((ByteArray.mk l.toArray)[j].toNat : Int) == 107) = false := by rw [show (ByteArray.mk l.toArray)[j] = l[j] from rfl, hc]; rfl
          have b116 : (((ByteArray.mk l.toArray)[j].toNat : Int) == 116) = false := by rw [show (ByteArray.mk l.toArray)[j] = l[j] from rfl, hc]; rfl
          have b112 : (((ByteArray.mk l.toArray)[j].toNat : Int) == 112) = true := by rw [show (ByteArray.mk l.toArray)[j] = l[j] from rfl, hc]; rfl
          have b115 : (((ByteArray.mk l.toArray)[j].toNat : Int) == 115) = false := by rw [show (ByteArray.mk l.toArray)[j] = l[j] from rfl, hc]; rfl
          have b101 : (((ByteArray.mk l.toArray)[j].toNat : Int) == 101) = false := by rw [show (ByteArray.mk l.toArray)[j] = l[j] from rfl, hc]; rfl
          have HIT := hid (show itB f l[j] = f.data from by rw [hc]; rfl)
          clear hc
          have HDL := hid HH0.out.dl
          obtain ⟨x3, w3, hr3, I3⟩ := HI.out.app (y := d) (HH0.out.ds.q HI.out.q) HH0.out.dl (by have := HZL.out; have := HDN.out; have := HDL.out; omega)
          have E3 := hid I3
          clear I3
          go_wp2_with (at_builtin; refine Lib.wpList_append_run _ rfl _ _ _ _ rfl _ _ rfl rfl _ _ hr3 ?_)
          go_roundw
          case rel => exact ⟨j + 1, _, by omega, by go_num, rfl, by rw [HPJ.out, HIT.out]; exact E3.out⟩
          case measure => simp [intOf]; omega
        · have HC := hid hc
          have b105 : (((ByteArray.mk l.toArray)[j].toNat : Int) == 105) = false := by rw [show (ByteArray.mk l.toArray)[j] = l[j] from rfl, hc]; rfl
          have b97 : (((ByteArray.mk l.toArray)[j].toNat : Int) == 97) = false := by rw [show (ByteArray.mk l.toArray)[j] = l[j] from rfl, hc]; rfl
          have b110 : (((ByteArray.mk l.toArray)[j].toNat : Int) == 110) = false := by rw [show (ByteArray.mk l.toArray)[j] = l[j] from rfl, hc]; rfl
          have b99 : (((ByteArray.mk l.toArray)[j].toNat : Int) == 99) = false := by rw [show (ByteArray.mk l.toArray)[j] = l[j] from rfl, hc]; rfl
          have b100 : (((ByteArray.mk l.toArray)[j].toNat : Int) == 100) = false := by rw [show (ByteArray.mk l.toArray)[j] = l[j] from rfl, hc]; rfl
          have b107 : (((ByteArray.mk l.toArray)[j].toNat : Int) == 107) = false := by rw [show (ByteArray.mk l.toArray)[j] = l[j] from rfl, hc]; rfl
          have b116 : (((ByteArray.mk l.toArray)[j].toNat : Int) == 116) = false := by rw [show (ByteArray.mk l.toArray)[j] = l[j] from rfl, hc]; rfl
          have b112 : (((ByteArray.mk l.toArray)[j].toNat : Int) == 112) = false := by rw [show (ByteArray.mk l.toArray)[j] = l[j] from rfl, hc]; rfl
          have b115 : (((ByteArray.mk l.toArray)[j].toNat : Int) == 115) = true := by rw [show (ByteArray.mk l.toArray)[j] = l[j] from rfl, hc]; rfl
          have b101 : (((ByteArray.mk l.toArray)[j].toNat : Int) == 101) = false := by rw [show (ByteArray.mk l.toArray)[j] = l[j] from rfl, hc]; rfl
          have HIT := hid (show itB f l[j] = forms (ackH f) from by rw [hc]; rfl)
          clear hc
          have hsp := OKL.out.sp HC.out
          have AK := hid (ackBytes_any f d c s wr (HH0.out.q HI.out.q) hsp.1 hsp.2)
          have LA := hid (show (forms (ackH f)).length ≤ 1056 from ackH_len (by have h1 := hsp.1; unfold spansB at h1; rw [Bool.and_eq_true, decide_eq_true_eq] at h1; exact h1.1.2))
          clear hsp
          go_wp2_with fail
          refine AK.out.mono ?_
          rintro e wp2 ⟨p2, rfl, q2, r2, n2⟩
          obtain ⟨x3, w3, hr3, I3⟩ := (HI.out.qr q2).app r2.seg r2.len (by have := HZL.out; have := LA.out; omega)
          have E3 := hid I3
          clear I3 q2 r2 n2
          go_wp2_with (at_builtin; refine Lib.wpList_append_run _ rfl _ _ _ _ rfl _ _ rfl rfl _ _ hr3 ?_)
          go_roundw
          case rel => exact ⟨j + 1, _, by omega, by go_num, rfl, by rw [HPJ.out, HIT.out]; exact E3.out⟩
          case measure => simp [intOf]; omega
        · have HC := hid hc
          have b105 : (((ByteArray.mk l.toArray)[j].toNat : Int) == 105) = false := by rw [show (ByteArray.mk l.toArray)[j] = l[j] from rfl, hc]; rfl
          have b97 : (((ByteArray.mk l.toArray)[j].toNat : Int) == 97) = false := by rw [show (ByteArray.mk l.toArray)[j] = l[j] from rfl, hc]; rfl
          have b110 : (((ByteArray.mk l.toArray)[j].toNat : Int) == 110) = false := by rw [show (ByteArray.mk l.toArray)[j] = l[j] from rfl, hc]; rfl
          have b99 : (((ByteArray.mk l.toArray)[j].toNat : Int) == 99) = false := by rw [show (ByteArray.mk l.toArray)[j] = l[j] from rfl, hc]; rfl
          have b100 : (((ByteArray.mk l.toArray)[j].toNat : Int) == 100) = false := by rw [show (ByteArray.mk l.toArray)[j] = l[j] from rfl, hc]; rfl
          have b107 : (((ByteArray.mk l.toArray)[j].toNat : Int) == 107) = false := by rw [show (ByteArray.mk l.toArray)[j] = l[j] from rfl, hc]; rfl
          have b116 : (((ByteArray.mk l.toArray)[j].toNat : Int) == 116) = false := by rw [show (ByteArray.mk l.toArray)[j] = l[j] from rfl, hc]; rfl
          have b112 : (((ByteArray.mk l.toArray)[j].toNat : Int) == 112) = false := by rw [show (ByteArray.mk l.toArray)[j] = l[j] from rfl, hc]; rfl
          have b115 : (((ByteArray.mk l.toArray)[j].toNat : Int) == 115) = false := by rw [show (ByteArray.mk l.toArray)[j] = l[j] from rfl, hc]; rfl
          have b101 : (((ByteArray.mk l.toArray)[j].toNat : Int) == 101) = true := by rw [show (ByteArray.mk l.toArray)[j] = l[j] from rfl, hc]; rfl
          have HIT := hid (show itB f l[j] = form f.e0 ++ form f.e1 ++ form f.e2 from by rw [hc]; rfl)
          clear hc
          go_wp2_with fail
          go_loopw [8, 10] (fun ov iv wx => ∃ (i : Nat) (y : Sv), i ≤ 3 ∧ iv = .int .i64 i ∧ ov = .slice y.a y.n y.c ∧ EI w0 wx y (pre f j ++ mk3 f i)) (fun _ iv _ => (3 - intOf iv).toNat)
          case atStart => exact ⟨0, ⟨xa, xn, xc⟩, by omega, rfl, rfl, by rw [show mk3 f 0 = [] from rfl, List.append_nil]; exact HI.out⟩
          case round =>
            obtain ⟨i, ⟨ya, yn, yc⟩, hi3, rfl, rfl, hE2⟩ := hrel
            rcases (show i = 0 ∨ i = 1 ∨ i = 2 ∨ i = 3 by omega) with rfl | rfl | rfl | rfl
            · have hi2 : ((0 : Nat) : Int) < 3 := by omega
              have EI2 := hid (show EI w0 wr ⟨ya, yn, yc⟩ (pre f j) from by rw [show pre f j = pre f j ++ mk3 f 0 from by simp [mk3, forms]]; exact hE2)
              have g0 := (Box.q HB0.out hE2.q).c10
              have HME := hid (OKL.out.e0 HC.out)
              clear hE2
              go_wp2_with fail
              refine (rput_k f.e0 _ HME.out.1 HME.out.2).mono ?_
              rintro e wp2 ⟨p2, rfl, q2, r2, n2⟩
              obtain ⟨x3, w3, hr3, I3⟩ := (EI2.out.qr q2).app r2.seg r2.len (by have := HZL.out; have := form_len8 f.e0; have := form_len8 f.e1; have := form_len8 f.e2; first | omega | (simp only [List.length_append]; omega))
              have E3 := hid (show EI w0 w3 x3 (pre f j ++ mk3 f (0 + 1)) from by rw [show pre f j ++ mk3 f (0 + 1) = pre f j ++ form f.e0 from by simp [mk3, forms]]; exact I3)
              clear I3 q2 r2 n2
              go_wp2_with (at_builtin; refine Lib.wpList_append_run _ rfl _ _ _ _ rfl _ _ rfl rfl _ _ hr3 ?_)
              go_roundw
              case rel => exact ⟨0 + 1, x3, by omega, by first | rfl | go_num, rfl, E3.out⟩
              case measure => simp [intOf]
            · have hi2 : ((1 : Nat) : Int) < 3 := by omega
              have EI2 := hid (show EI w0 wr ⟨ya, yn, yc⟩ (pre f j ++ form f.e0) from by rw [show pre f j ++ form f.e0 = pre f j ++ mk3 f 1 from by simp [mk3, forms]]; exact hE2)
              have g1 := (Box.q HB0.out hE2.q).c11
              have HME := hid (OKL.out.e1 HC.out)
              clear hE2
              go_wp2_with fail
              refine (rput_k f.e1 _ HME.out.1 HME.out.2).mono ?_
              rintro e wp2 ⟨p2, rfl, q2, r2, n2⟩
              obtain ⟨x3, w3, hr3, I3⟩ := (EI2.out.qr q2).app r2.seg r2.len (by have := HZL.out; have := form_len8 f.e0; have := form_len8 f.e1; have := form_len8 f.e2; first | omega | (simp only [List.length_append]; omega))
              have E3 := hid (show EI w0 w3 x3 (pre f j ++ mk3 f (1 + 1)) from by rw [show pre f j ++ mk3 f (1 + 1) = pre f j ++ form f.e0 ++ form f.e1 from by simp [mk3, forms]]; exact I3)
              clear I3 q2 r2 n2
              go_wp2_with (at_builtin; refine Lib.wpList_append_run _ rfl _ _ _ _ rfl _ _ rfl rfl _ _ hr3 ?_)
              go_roundw
              case rel => exact ⟨1 + 1, x3, by omega, by first | rfl | go_num, rfl, E3.out⟩
              case measure => simp [intOf]
            · have hi2 : ((2 : Nat) : Int) < 3 := by omega
              have EI2 := hid (show EI w0 wr ⟨ya, yn, yc⟩ (pre f j ++ form f.e0 ++ form f.e1) from by rw [show pre f j ++ form f.e0 ++ form f.e1 = pre f j ++ mk3 f 2 from by simp [mk3, forms]]; exact hE2)
              have g2 := (Box.q HB0.out hE2.q).c12
              have HME := hid (OKL.out.e2 HC.out)
              clear hE2
              go_wp2_with fail
              refine (rput_k f.e2 _ HME.out.1 HME.out.2).mono ?_
              rintro e wp2 ⟨p2, rfl, q2, r2, n2⟩
              obtain ⟨x3, w3, hr3, I3⟩ := (EI2.out.qr q2).app r2.seg r2.len (by have := HZL.out; have := form_len8 f.e0; have := form_len8 f.e1; have := form_len8 f.e2; first | omega | (simp only [List.length_append]; omega))
              have E3 := hid (show EI w0 w3 x3 (pre f j ++ mk3 f (2 + 1)) from by rw [show pre f j ++ mk3 f (2 + 1) = pre f j ++ form f.e0 ++ form f.e1 ++ form f.e2 from by simp [mk3, forms]]; exact I3)
              clear I3 q2 r2 n2
              go_wp2_with (at_builtin; refine Lib.wpList_append_run _ rfl _ _ _ _ rfl _ _ rfl rfl _ _ hr3 ?_)
              go_roundw
              case rel => exact ⟨2 + 1, x3, by omega, by first | rfl | go_num, rfl, E3.out⟩
              case measure => simp [intOf]
            · have E3 := hid hE2
              clear hE2
              go_wp2
              go_roundw
              case rel => exact ⟨j + 1, _, by omega, by go_num, rfl, by rw [HPJ.out, HIT.out, show form f.e0 ++ form f.e1 ++ form f.e2 = mk3 f 3 from by simp [mk3, forms]]; exact E3.out⟩
              case measure => simp [intOf]; omega
      · obtain rfl : j = l.length := by omega
        have hji : ¬ (l.length : Int) < (l.length : Int) := by omega
        have HF := hid (show Made w wr ⟨xa, xn, xc⟩ (enc f) from ⟨Q0.out.trans HI.out.q, by rw [← HALL.out]; exact HI.out.row, HI.out.new.mono Q0.out.size⟩)
        clear hI hjl hj
        go_wp2
        go_ret2
        exact ⟨⟨xa, xn, xc⟩, rfl, HF.out⟩

theorem rencode_any (f : Fr) (d c s : Sv) (w : World) (h : Holds w f d c s) :
    Calls Try.prog 12 #[fv f d c s] w fun e w' => ∃ r : Sv, e = .returned (.tuple #[.slice r.a r.n r.c, .int .i64 (chk f)]) ∧ Made w w' r (if chk f = 0 then enc f else []) := by
  by_cases he : chk f = 0
  · rw [he, if_pos rfl]
    by_cases h0 : f.kind = 0
    · have ok4 := (chk_ok he).2.2.2
      have hn : 1 ≤ f.num ∧ f.num ≤ 16384 := by
        unfold fieldsB at ok4; rw [if_pos h0] at ok4; simpa using ok4
      obtain ⟨n, hnn⟩ := Int.eq_ofNat_of_zero_le (show 0 ≤ f.num by omega)
      rw [show enc f = List.replicate n 0 from by unfold enc; rw [if_pos h0, hnn, Int.toNat_natCast]]
      exact rencode_0 f n d c s w h0 hnn (by omega) (by omega) h he
    · exact rencode_r f d c s w h0 h he
  · rw [if_neg he]
    refine (rencode_no f d c s w h he).mono ?_
    rintro e w' ⟨rfl, q⟩
    exact ⟨⟨none, 0, 0⟩, rfl, q, sub_nil _ 5 1, fun b e => by simp [blk] at e⟩
end Go.Proofs.Ytdoodbaogmdloaa
