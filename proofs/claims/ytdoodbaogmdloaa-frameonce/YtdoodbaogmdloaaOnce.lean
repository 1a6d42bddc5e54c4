/-
  FrameOnce holds for every slice of bytes: what Decode reads is right, and its own bytes, where they are not too many, are read as the same frames; no condition.
-/
import Derived.Test.YtdoodbaogmdloaaRows
import Derived.Test.YtdoodbaogmdloaaAwake
import Derived.Test.YtdoodbaogmdloaaRt
import Derived.Test.YtdoodbaogmdloaaOnceB
import Derived.Test.YtdoodbaogmdloaaOnceM
import Derived.Test.YtdoodbaogmdloaaCopied
import Derived.Test.YtdoodbaogmdloaaSame
import Derived.Test.YtdoodbaogmdloaaOpen
import Derived.Test.YtdoodbaogmdloaaCopy
import Derived.WalkKit
import Derived.ProofKit
import Derived.OpenShut
import Derived.ShutString
import Derived.ChangeOld
import Derived.Below
import Derived.SizedLaws
namespace Go.Proofs.Ytdoodbaogmdloaa.frameOnce
open Go.ChangeShapes Go.WideShapes Go.ChangeAt Go.RowKit
open Go.ChangeMaps (open_string shut_string)
set_option linter.unusedVariables false
set_option maxRecDepth 20000

/-- A frame that was read fits. -/
theorem fit_of {B : Nat} {w : World} {f : Fr} {d c s : Sv} (h : HoldsR B w f d c s) (hc : chk f = 0 ∧ bare f = f) : Fit w f d c s := by
  have hb := bare_small hc.1 hc.2
  have h1 := h.dr.len
  have h2 := h.cr.len
  have h3 := h.sr.len
  exact ⟨h.holds, by omega, by omega, by omega⟩

/-- The first loop's state. -/
structure OnI (w w2 wr : World) (fs : List Fr) (j : Nat) (x : Sv) : Prop where
  q : Q w wr
  q2 : Q w2 wr
  row : Row wr x ((fs.take j).flatMap enc)
  new : New w2.heap.size x
  len : x.n ≤ 40000 * j

set_option maxHeartbeats 8000000 in
theorem walk (a : Option Addr) (n c : Nat) (zs : List Int) (w : World) (hl : zs.length = n) (hn : n ≤ 140737488351232) (hz : ∀ y ∈ zs, 0 ≤ y ∧ y < 256) (hs : Seg w a zs) :
    Calls Try.prog 6 #[.slice a n c] w fun e w' => e = .returned (.bool true) ∧ Below w.heap.size w w' := by
  have HL := hid hl
  have HZ := hid hz
  have HS := hid hs
  clear hl hz hs
  go_enter Try.func6, Try.ntmps6
  go_wp2_with fail
  refine (rcopy_any a n c zs w HL.out (by omega) HS.out).mono ?_
  rintro e w1 ⟨g, rfl, hq1, hown, _⟩
  have Q1 := hid hq1
  have S1 := hid hown.seg
  clear hq1 hown
  go_wp2_with fail
  refine (decode_any ⟨some ⟨g, 0, none⟩, n, n⟩ zs w1 HL.out HZ.out S1.out (by show n ≤ _; omega)).mono ?_
  rintro e w2 ⟨x, fds, rfl, hq2, hf, hm⟩
  have Q2 := hid (Q1.out.trans hq2)
  have hxl := hf.len
  have hcount := decA_count zs
  obtain ⟨⟨fs, at_, er⟩, hD⟩ : ∃ D, decA zs = D := ⟨_, rfl⟩
  rw [hD] at hm hcount ⊢
  dsimp only at hm hcount ⊢
  have hml : fs.length = x.n := by rw [← hm, List.length_map]; exact hxl
  by_cases her : er = 0
  rotate_left
  · have hx0 : x.n = 0 ∧ 0 ≤ at_ ∧ at_ ≤ n := by
      rcases decA_cases HZ.out hD with h | h | ⟨_, h1, S, h2, h3, h4, _⟩
      · exact absurd h.1 her
      · rw [h.2.2] at hml; simp at hml; omega
      · rw [h1] at hml; simp at hml; have := HL.out; omega
    have hb : (er != 0) = true := by simp [her]
    have hb2 : ((x.n : Int) == 0) = true := by simp [hx0.1]
    have hb3 : (0 : Int) ≤ at_ := hx0.2.1
    have hb4 : at_ ≤ (n : Int) := hx0.2.2
    clear hf hm hxl hq2 Q1 S1 hD hcount hml her hx0
    go_wp2_with fail
    refine (awake_any _).mono ?_
    rintro e w3 ⟨rfl, hq3⟩
    have Q3 := hid (Q2.out.trans hq3)
    clear hq3
    go_wp2
    go_ret
    exact ⟨by first | rfl | simp, Q3.out⟩
  subst her
  obtain ⟨hchk, hne, hag⟩ := decA_again HZ.out hD
  have hby : ∀ y ∈ fs.flatMap enc, 0 ≤ y ∧ y < 256 := by
    intro y hy
    obtain ⟨f, hf1, hf2⟩ := List.mem_flatMap.1 hy
    have hmm := decA_mem HZ.out
    rw [hD] at hmm
    exact enc_bytes HZ.out (hchk f hf1) (hmm f hf1) y hf2
  have HBY := hid hby
  have HF := hid hf
  have HM := hid hm
  have HCK := hid hchk
  have HAG := hid hag
  have HML := hid hml
  have HCT := hid hcount
  have hxn : x.n ≤ 16384 := by omega
  clear hf hm hxl hq2 Q1 S1 hD hcount hml hchk hne hag hby
  go_wp2
  go_loopw [6, 42] (fun cv i wr => ∃ (j : Nat) (y : Sv), j ≤ x.n ∧ i = .int .i64 j ∧ cv = .slice y.a y.n y.c ∧ OnI w w2 wr fs j y) (fun _ i _ => ((x.n : Int) - intOf i).toNat)
  case atStart => exact ⟨0, ⟨none, 0, 0⟩, Nat.zero_le _, rfl, rfl, Q2.out, Q.refl _, by simp; exact sub_nil _ _ _, new_nil _, by simp⟩
  case round =>
    obtain ⟨j, ⟨ya, yn, yc⟩, hj, rfl, rfl, hI⟩ := hrel
    have HI := hid hI
    clear hI
    by_cases hjx : j < x.n
    · obtain ⟨g1, o1, f1, d1, c1, s1, hxa, hel, hmem, hget⟩ := HF.out.el (j := j) (by rw [HF.out.len]; exact hjx)
      have hjl : j < fs.length := by rw [HML.out]; exact hjx
      rw [HM.out] at hget
      have hfm : f1 ∈ fs := by rw [← HM.out]; exact List.mem_map.2 ⟨_, hmem, rfl⟩
      have hc1 := HCK.out f1 hfm
      have HFT := hid (fit_of ((HF.out.hold _ hmem).q HI.out.q2) hc1)
      have HCB := hid hc1
      have HEL := hid (enc_len hc1.1)
      have HTK := hid (show (fs.take (j + 1)).flatMap enc = (fs.take j).flatMap enc ++ enc f1 from by
        rw [List.take_succ_eq_append_getElem hjl, List.flatMap_append]
        rw [List.getD_eq_getElem?_getD, List.getElem?_eq_getElem hjl] at hget
        rw [show fs[j] = f1 from hget]
        simp)
      obtain ⟨e0, e1, e2, e3, e4, e5, e6, e7, e8, e9, e10, e11, e12⟩ := (hel.q HI.out.q2).all
      have hji : (j : Int) < (x.n : Int) := by omega
      have hj0 : (0 : Int) ≤ (j : Int) := by omega
      have hg1 : g1 < wr.heap.size := lt_of_cell e0
      clear hel hmem hget hfm hc1 hjl
      rw [hxa]
      go_wp2_with fail
      generalize hw3 : World.alloc wr _ = w3
      have q3 : Q wr w3 := by rw [← hw3]; exact (Q.refl wr).alloc _
      have b3 : Box w3 26 wr.heap.size f1 d1 c1 s1 := by rw [← hw3]; exact heap_alloc_new wr _
      clear hw3 e0 e1 e2 e3 e4 e5 e6 e7 e8 e9 e10 e11 e12
      refine (copied_any f1 d1 c1 s1 w3 (HFT.out.q q3)).mono ?_
      rintro e w4 ⟨d4, c4, s4, rfl, q4, hh4⟩
      have Q4 := hid (q3.trans q4)
      have B4 := hid (b3.q q4)
      have FT4 := hid (fit_of hh4 HCB.out)
      clear hh4 q3 q4 b3
      go_wp2_with fail
      refine (encode_any f1 d4 c4 s4 w4 FT4.out.h FT4.out.nd FT4.out.nc).mono ?_
      rintro e w5 ⟨⟨pa, pn, pc⟩, rfl, m5⟩
      rw [if_pos HCB.out.1] at m5
      rw [HCB.out.1]
      obtain ⟨e0, e1, e2, e3, e4, e5, e6, e7, e8, e9, e10, e11, e12⟩ := Box.all (B4.out.q m5.1)
      have M5 := hid m5
      clear m5
      go_wp2_with fail
      clear e0 e1 e2 e3 e4 e5 e6 e7 e8 e9 e10 e11 e12
      refine (copied_any f1 d1 c1 s1 w5 (HFT.out.q (Q4.out.trans M5.out.1))).mono ?_
      rintro e w6 ⟨d6, c6, s6, rfl, q6, hh6⟩
      have Q6 := hid q6
      have FT6 := hid (fit_of hh6 HCB.out)
      clear q6 hh6
      go_wp2_with fail
      refine (check_any f1 d6 c6 s6 w6 FT6.out.h FT6.out.nd FT6.out.nc).mono ?_
      rintro e w7 ⟨rfl, q7⟩
      rw [HCB.out.1]
      have Q57 := hid (Q6.out.trans q7)
      have Q07 := hid (Q4.out.trans (M5.out.1.trans Q57.out))
      have hpl := Row.len M5.out.2.1
      have hxl := Row.len HI.out.row
      have hx4 := HI.out.len
      have hel2 := HEL.out
      have hct := HCT.out
      have hml := HML.out
      dsimp only at hpl hxl hx4
      obtain ⟨⟨za, zn, zc⟩, w8, hrun, hrow, hk, hb⟩ := row_append_big (ty := 22) (d := ⟨ya, yn, yc⟩) (x := .slice pa pn pc) (m := pn) (ys := enc f1) (HI.out.row.q Q07.out) (src_seg (Row.seg (M5.out.2.1.q Q57.out)) hpl) (by dsimp only; omega)
      have hns := new_step rfl (HI.out.q2.trans Q07.out) HI.out.new hk hb
      have HX := hid hns
      have hzl := Row.len hrow
      rw [List.length_append] at hzl
      dsimp only at hzl
      have HY := hid hrow
      have HZL := hid (show zn ≤ 40000 * (j + 1) by omega)
      clear q7 hpl hxl hx4 hel2 hct hml hk hb hns hrow hzl FT4 FT6 B4 HFT
      go_wp2_with (at_builtin; refine Lib.wpList_append_run _ rfl _ _ _ _ rfl _ _ rfl rfl _ _ hrun ?_)
      go_roundw
      case rel => exact ⟨j + 1, ⟨za, zn, zc⟩, by omega, by go_num, rfl, Q2.out.trans HX.out.1, HX.out.1, by rw [HTK.out]; exact HY.out, HX.out.2, HZL.out⟩
      case measure => simp [intOf]; omega
    · have hji : ¬ (j : Int) < (x.n : Int) := by omega
      obtain rfl : j = x.n := by omega
      have hrow := HI.out.row
      rw [List.take_of_length_le (Nat.le_of_eq HML.out)] at hrow
      have hyl := Row.len hrow
      dsimp only at hyl
      have HRW := hid hrow
      clear hrow
      by_cases hbig : 16384 < yn
      · have hbi : (16384 : Int) < (yn : Int) := by omega
        clear hyl
        go_wp2_with fail
        refine (awake_any _).mono ?_
        rintro e w3 ⟨rfl, hq3⟩
        have Q3 := hid (HI.out.q.trans hq3)
        clear hq3
        go_wp2
        go_ret
        exact ⟨by first | rfl | simp, Q3.out⟩
      have hbi : ¬ (16384 : Int) < (yn : Int) := by omega
      go_wp2_with fail
      refine (decode_any ⟨ya, yn, yc⟩ (fs.flatMap enc) wr hyl HBY.out HRW.out.seg (by show yn ≤ _; omega)).mono ?_
      rintro e w3 ⟨⟨x2a, x2n, x2c⟩, fds2, rfl, hq3, hf3, hm3⟩
      rw [HAG.out (by rw [hyl]; omega)] at hm3 ⊢
      dsimp only at hm3 ⊢
      have hl2 := hf3.len
      dsimp only at hl2
      obtain rfl : x2n = x.n := by rw [← hl2, ← HML.out, ← hm3, List.length_map]
      have HF2 := hid hf3
      have HM2 := hid hm3
      have Q3 := hid (HI.out.q.trans hq3)
      have Q23 := hid (HI.out.q2.trans hq3)
      clear hf3 hm3 hq3 hl2 hyl HRW
      go_wp2
      go_loopw [85] (fun iv wq => ∃ k : Nat, k ≤ x.n ∧ iv = .int .i64 k ∧ Q w3 wq) (fun iv _ => ((x.n : Int) - intOf iv).toNat)
      case atStart => exact ⟨0, Nat.zero_le _, rfl, Q.refl _⟩
      case round =>
        obtain ⟨j, hj, rfl, hI2⟩ := hrel
        have HJ := hid hI2
        clear hI2
        by_cases hjx : j < x.n
        · obtain ⟨g1, o1, f1, d1, c1, s1, hxa, hel, hmem, hget⟩ := HF.out.el (j := j) (by rw [HF.out.len]; exact hjx)
          obtain ⟨g2, o2, f2, d2, c2, s2, hxa2, hel2, hmem2, hget2⟩ := HF2.out.el (j := j) (by rw [HF2.out.len]; exact hjx)
          rw [HM.out] at hget
          rw [HM2.out] at hget2
          obtain rfl : f1 = f2 := hget.symm.trans hget2
          have hc1 := HCK.out f1 (by rw [← HM.out]; exact List.mem_map.2 ⟨_, hmem, rfl⟩)
          have FT1 := hid (fit_of ((HF.out.hold _ hmem).q (Q23.out.trans HJ.out)) hc1)
          have FT2 := hid (fit_of ((HF2.out.hold _ hmem2).q HJ.out) hc1)
          have EL1 := hid (hel.q (Q23.out.trans HJ.out))
          have EL2 := hid (hel2.q HJ.out)
          have hji : (j : Int) < (x.n : Int) := by omega
          have hj0 : (0 : Int) ≤ (j : Int) := by omega
          clear hel hel2 hmem hmem2 hget hget2 hc1
          dsimp only at hxa2
          rw [hxa, hxa2]
          go_wp2
          go_region_held3 (fun w' => (w'.cell? ⟨g1, o1 + j * 13, none⟩ = some (.int .i64 f1.kind) ∧ w'.cell? ⟨g1, o1 + j * 13 + 1, none⟩ = some (.int .i64 f1.id) ∧ w'.cell? ⟨g1, o1 + j * 13 + 2, none⟩ = some (.int .i64 f1.pl) ∧ w'.cell? ⟨g1, o1 + j * 13 + 3, none⟩ = some (.int .i64 f1.num) ∧ w'.cell? ⟨g1, o1 + j * 13 + 4, none⟩ = some (.int .i64 f1.code) ∧ w'.cell? ⟨g1, o1 + j * 13 + 5, none⟩ = some (.bool f1.fin) ∧ w'.cell? ⟨g1, o1 + j * 13 + 6, none⟩ = some (.slice d1.a d1.n d1.c) ∧ w'.cell? ⟨g1, o1 + j * 13 + 7, none⟩ = some (.slice c1.a c1.n c1.c) ∧ w'.cell? ⟨g1, o1 + j * 13 + 8, none⟩ = some (.slice s1.a s1.n s1.c) ∧ w'.cell? ⟨g1, o1 + j * 13 + 9, none⟩ = some (.int .i64 f1.dl) ∧ w'.cell? ⟨g1, o1 + j * 13 + 10, none⟩ = some (.int .i64 f1.e0) ∧ w'.cell? ⟨g1, o1 + j * 13 + 11, none⟩ = some (.int .i64 f1.e1) ∧ w'.cell? ⟨g1, o1 + j * 13 + 12, none⟩ = some (.int .i64 f1.e2)) ∧ (w'.cell? ⟨g2, o2 + j * 13, none⟩ = some (.int .i64 f1.kind) ∧ w'.cell? ⟨g2, o2 + j * 13 + 1, none⟩ = some (.int .i64 f1.id) ∧ w'.cell? ⟨g2, o2 + j * 13 + 2, none⟩ = some (.int .i64 f1.pl) ∧ w'.cell? ⟨g2, o2 + j * 13 + 3, none⟩ = some (.int .i64 f1.num) ∧ w'.cell? ⟨g2, o2 + j * 13 + 4, none⟩ = some (.int .i64 f1.code) ∧ w'.cell? ⟨g2, o2 + j * 13 + 5, none⟩ = some (.bool f1.fin) ∧ w'.cell? ⟨g2, o2 + j * 13 + 6, none⟩ = some (.slice d2.a d2.n d2.c) ∧ w'.cell? ⟨g2, o2 + j * 13 + 7, none⟩ = some (.slice c2.a c2.n c2.c) ∧ w'.cell? ⟨g2, o2 + j * 13 + 8, none⟩ = some (.slice s2.a s2.n s2.c) ∧ w'.cell? ⟨g2, o2 + j * 13 + 9, none⟩ = some (.int .i64 f1.dl) ∧ w'.cell? ⟨g2, o2 + j * 13 + 10, none⟩ = some (.int .i64 f1.e0) ∧ w'.cell? ⟨g2, o2 + j * 13 + 11, none⟩ = some (.int .i64 f1.e1) ∧ w'.cell? ⟨g2, o2 + j * 13 + 12, none⟩ = some (.int .i64 f1.e2)))
            (first
              | exact ⟨El.all (EL1.out.q (QC.out.trans (by repeat (first | exact Q.refl _ | apply Q.drewN | apply Q.drew)))), El.all (EL2.out.q (QC.out.trans (by repeat (first | exact Q.refl _ | apply Q.drewN | apply Q.drew))))⟩
              | exact ⟨El.all (EL1.out.q (QB.out.trans (by repeat (first | exact Q.refl _ | apply Q.drewN | apply Q.drew)))), El.all (EL2.out.q (QB.out.trans (by repeat (first | exact Q.refl _ | apply Q.drewN | apply Q.drew))))⟩
              | exact ⟨El.all (EL1.out.q (QA.out.trans (by repeat (first | exact Q.refl _ | apply Q.drewN | apply Q.drew)))), El.all (EL2.out.q (QA.out.trans (by repeat (first | exact Q.refl _ | apply Q.drewN | apply Q.drew))))⟩
              | exact ⟨El.all (EL1.out.q (by repeat (first | exact Q.refl _ | apply Q.drewN | apply Q.drew))), El.all (EL2.out.q (by repeat (first | exact Q.refl _ | apply Q.drewN | apply Q.drew)))⟩)
            (first
              | (go_at_call 17; refine (sameF_any f1 d2 c2 s2 d1 c1 s1 _ (FT2.out.q (QB.out.trans (by repeat (first | exact Q.refl _ | apply Q.drewN | apply Q.drew)))).h (FT1.out.q (QB.out.trans (by repeat (first | exact Q.refl _ | apply Q.drewN | apply Q.drew)))).h FT2.out.nd FT2.out.nc FT2.out.ns).mono ?_; rintro e wc ⟨rfl, qc⟩; have QC := hid (show Q wr wc from QB.out.trans (Q.trans (by repeat (first | exact Q.refl _ | apply Q.drewN | apply Q.drew)) qc)); clear qc)
              | (have qt := QA.out; clear qt; go_at_call 13; refine (of_any f1 d1 c1 s1 _).mono ?_; rintro e wb ⟨rfl, qb⟩; have QB := hid (show Q wr wb from QA.out.trans (Q.trans (by repeat (first | exact Q.refl _ | apply Q.drewN | apply Q.drew)) qb)); clear qb)
              | (go_at_call 13; refine (of_any f1 d2 c2 s2 _).mono ?_; rintro e wa ⟨rfl, qa⟩; have QA := hid (show Q wr wa from Q.trans (by repeat (first | exact Q.refl _ | apply Q.drewN | apply Q.drew)) qa); clear qa))
          have HQC := hid (HJ.out.trans QC.out)
          clear QA QB QC EL1 EL2 FT1 FT2
          go_wp2
          go_roundw
          case rel => exact ⟨j + 1, by omega, by go_num, HQC.out⟩
          case measure => simp [intOf]; omega
        · have hji : ¬ (j : Int) < (x.n : Int) := by omega
          go_wp2_with fail
          refine (awake_any _).mono ?_
          rintro e w4 ⟨rfl, hq4⟩
          have Q5 := hid (Q3.out.trans (HJ.out.trans hq4))
          clear hq4
          go_wp2
          go_ret
          exact ⟨by first | rfl | simp, Q5.out⟩

set_option maxRecDepth 100000 in
theorem lifted (os : Os) (started : os.Started) (H : Type) (enc : TypeId × Value → H) :
    ReturnsInHanded {} Try.checked os 6 .any (Rows.frameOnceSpec.pre6 enc Try.prog Try.f6 Rows.frameOnceRow.domain false) (Rows.frameOnceSpec.post enc Try.prog Try.f6 false true false false) := by
  refine returnsInHanded_of_change_sized (C := Try.checked) own_knob started (by kernel_rfl) Try.func6
    (ChangeSpec.witness6 (enc := enc) (C := Try.checked) false ⟨#[], #[.slice none 0 0], []⟩ 8 (by kernel_rfl) (by kernel_rfl) (by kernel_rfl) (by kernel_rfl)) ?_
  intro W base args ds gs before hval0 hW hcnd hsz0 _
  have hval : ∀ (j : Nat) t v, Try.f6.params[j]? = some t → args[j]? = some v → Value.okWide Try.prog W .any base t v := hval0
  have hsz : (DataW.weightsEach Try.prog (Try.f6.params.toList ++ Rows.frameOnceSpec.plain.varTypes Try.prog) (ds ++ gs)).all (· ≤ reachBytes) = true := hsz0
  have hW' := hW
  obtain ⟨p, q, hA0, hV, rfl, hfz, hnd⟩ := hW
  have hA : DataW.TrodAll enc Try.prog W 0 (fun _ => true) true Try.f6.params.toList args.toList ds p := hA0
  rw [Try.params6] at hA hval hsz
  obtain ⟨v0, vs0, d0, ds0, p0, q0, hargs, rfl, rfl, h0, r0⟩ := trodAll_cons hA
  obtain ⟨rfl, rfl, rfl⟩ := trodAll_nil r0
  obtain rfl : args = #[v0] := by cases args; simp_all
  obtain ⟨rfl, rfl⟩ := trodVars_none hV
  obtain ⟨a0, len0, cap0, rfl⟩ := okWide_slice Try.underlying22 (hval 0 22 v0 rfl rfl)
  have k0 := h0
  have lt0 : ∀ x ∈ p0, x.block < W.heap.size := by obtain ⟨m, hm⟩ := k0; exact DataW.trod_lt m _ _ _ hm
  obtain ⟨z0, zl0, zs0, zb0, zc0, ze0, zd0⟩ := open_bytes h0
  have zn0 := len_le_bytes hsz (j := 0) rfl rfl zd0
  clear hA0 hval0
  refine (walk a0 len0 cap0 z0 W zl0 zn0 zb0 zs0).mono fun e W' ⟨he, bel⟩ => ?_
  subst he
  exact ⟨_, rfl, _, _, _, [], _, [], hW', trodAll_mk1 (shut_bool Try.underlying4 _), (trodAll_cons_mk (Below.trod laid_out (by kernel_rfl) (of_decide_eq_true (by kernel_rfl)) k0 bel lt0) trodAll_mk0), rfl, bel.frame _, fun h => by cases h⟩

theorem over : Rows.frameOnceRow.holds Try.pinned (OpenSpec.ofChange Rows.frameOnceSpec) :=
  OpenClaim.holds_of_wide 6 Try.f6 rfl rfl rfl rfl rfl rfl rfl ⟨rfl, rfl, rfl, rfl, rfl⟩ rfl rfl rfl rfl rfl (by kernel_rfl) Try.func6 (by kernel_rfl)
    (of_decide_eq_true (by kernel_rfl)) (by unfold Func.isWrapper; first | (rw [if_pos (by decide +kernel)]; kernel_rfl) | (rw [if_neg (by decide +kernel)]; exact ⟨rfl, rfl⟩))
    (fun os started H enc _ => lifted os started H enc)

end Go.Proofs.Ytdoodbaogmdloaa.frameOnce
namespace Go.Proofs.Ytdoodbaogmdloaa

/-- The statement. -/
theorem frameOnce_holds : Rows.FrameOnceSaid := frameOnce.over
#print axioms frameOnce_holds
end Go.Proofs.Ytdoodbaogmdloaa
