/-
  What the document's own Add does where it lays a span that begins below the floor: a contract.
-/
import Derived.Test.YtmcemfjnenfcaaaRefH
namespace Go.Proofs.Ytmcemfjnenfcaaa
open Go.RowKit
set_option linter.unusedVariables false

set_option maxHeartbeats 8000000 in
set_option maxRecDepth 100000 in
theorem radd_lay2 (rd : Nat) (a : Option Addr) (n c : Nat) (most floor : Int) (xs : List Sp) (fr t : Int) (w : World) (hs : Rt w rd a n c most floor xs) (hok : Ok most floor xs) (h0 : 0 ≤ fr) (h1 : fr ≤ t) (h2 : t ≤ 4611686018427387903) (h3 : floor ≤ t) (hff : fr < floor) :
    Calls Try.prog 16 #[.pointer (some ⟨rd, 0, none⟩), .int .i64 fr, .int .i64 t] w fun e w' => e = .returned (.tuple #[.int .i64 (t - floor + 1 - ovs (floor, t) xs), .int .i64 0]) ∧
      (∃ a' n' c', Rt w' rd a' n' c' most (fitF most floor (pl (jnc floor t (floor, t) xs) false xs)) (fitL most (pl (jnc floor t (floor, t) xs) false xs)) ∧ (∀ b, blk a' = some b → w.heap.size ≤ b)) ∧ Keep (fun k => k = rd) w w' := by
  have c1 := hs.hd.c1
  have hb : decide (fr < 0) = false := by simp; omega
  have hb2 : decide (t < fr) = false := by simp; omega
  have hc : ¬ (4611686018427387903 : Int) < t := by omega
  have h4 : ¬ t < floor := by omega
  have hlen := hok.len
  have hm1 := hok.m1
  have hl := hs.len
  have f0 := hok.f0
  have hn : n ≤ 64 := by omega
  have hrd := hs.hd.lt
  have HA := hid hok.ap
  have HM0 := hid hok.m0
  have HS := hid hs
  have HL := hid hl
  clear hs hok hlen hl
  go_enter Try.func16, Try.ntmps16
  go_wp2
  have g0 : 0 ≤ floor := by omega
  have g1 : floor ≤ t := by omega
  have glo : floor ≤ floor := by omega
  generalize hf : floor = f at *
  have HF := hid hf
  have GLO := hid glo
  clear glo
  clear hf c1 hb hb2 hc
  have S1 := hid (HS.out.q ((Q.refl w).alloc (.cells #[.int .i64 f, .int .i64 t] 49)))
  have J1 := hid (show One (w.alloc (.cells #[.int .i64 f, .int .i64 t] 49)) w.heap.size (f, t) from heap_alloc_new w _)
  have K1 := hid (show Q w (w.alloc (.cells #[.int .i64 f, .int .i64 t] 49)) from (Q.refl w).alloc _)
  have hw1 : (w.alloc (.cells #[.int .i64 f, .int .i64 t] 49)).heap.size = w.heap.size + 1 := by simp
  generalize w.alloc (.cells #[.int .i64 f, .int .i64 t] 49) = w1 at *
  have HW0 := hid (show ∃ ob, ob = w.heap.size from ⟨_, rfl⟩)
  obtain ⟨ob, hob⟩ := HW0.out
  rw [← hob] at hw1 J1 hrd ⊢
  have HOB := hid hob
  clear hob HW0
  have HBL := hid (show ∀ b, blk a = some b → b < ob from fun b hb => by rw [HOB.out]; exact HS.out.lt b hb)
  go_loopw [8, 10] (fun v8 v10 wr => ∃ k : Nat, ∃ j : Sp, k ≤ n ∧ v10 = .int .i64 k ∧ v8 = .int .i64 (t - f + 1 - ovs (f, t) xs + ovs (f, t) (xs.drop k)) ∧ jnc f t j (xs.drop k) = jnc f t (f, t) xs ∧ One wr ob j ∧ Keep (fun x => x = ob) w1 wr) (fun _ i _ => n - (intOf i).toNat)
  case atStart => exact ⟨0, (f, t), Nat.zero_le _, rfl, by simp, rfl, J1.out, Keep.refl _ _⟩
  case round =>
    obtain ⟨k, j, hk, rfl, rfl, hj, h1j, hkeep⟩ := hrel
    have HJ := hid hj
    have OJ := hid h1j
    have KP := hid hkeep
    have hwr := hkeep.size
    clear hj h1j hkeep
    have Sr := hid (S1.out.keep KP.out (by omega) (fun b hb e => by have := HBL.out b hb; omega))
    have c2 := Sr.out.hd.c2
    have hrw := Sr.out.hd.lt
    by_cases hkm : k < n
    · obtain ⟨b, off, rfl, d0, d1, d2⟩ := seg_last Sr.out.seg HL.out hkm
      have HD := hid (drop_cons (xs := xs) (k := k) (by rw [HL.out]; exact hkm))
      have hmem : xs.getD k (0, 0) ∈ xs := by
        rw [List.getD_eq_getElem?_getD, List.getElem?_eq_getElem (by rw [HL.out]; exact hkm)]; simp
      have hyb := HA.out.mem _ hmem
      have hlt' : (k : Int) < (n : Int) := by omega
      have hjl := OJ.out.ltt
      have e6 : ovs (f, t) (xs.drop k) = ov (f, t) (xs.getD k (0, 0)) + ovs (f, t) (xs.drop (k + 1)) := by rw [HD.out]; rfl
      have e7 := ovs_drop' (f, t) xs k
      have e8 := ovs_fit f t xs _ HA.out g1
      have e9 := ovs_pos (f, t) (xs.drop (k + 1))
      have e10 := ov_pos (f, t) (xs.getD k (0, 0))
      clear hmem
      generalize xs.getD k (0, 0) = y at *
      have HV := hid (show t - f + 1 - ovs (f, t) xs + ovs (f, t) (xs.drop k) - ov (f, t) y = t - f + 1 - ovs (f, t) xs + ovs (f, t) (xs.drop (k + 1)) by omega)
      have hV0 : 0 ≤ t - f + 1 - ovs (f, t) xs + ovs (f, t) (xs.drop k) := by omega
      have hV1 : t - f + 1 - ovs (f, t) xs + ovs (f, t) (xs.drop k) ≤ 4611686018427387904 := by omega
      have ho1 : ov (f, t) y ≤ 4611686018427387904 := by omega
      generalize t - f + 1 - ovs (f, t) xs + ovs (f, t) (xs.drop k) = V at *
      clear e6 e7 e8 e9
      have HQ := hid ((Q.refl wr).alloc (.cells #[.int .i64 y.1, .int .i64 y.2] 49))
      have OQ := hid (OJ.out.q HQ.out)
      have HC := hid (fun u => cut_any y.1 y.2 f t u (by omega) (by omega) (by omega) (by omega) (by omega) (by omega) (by omega) (by omega))
      have j0 := OJ.out.d0
      have j1 := OJ.out.d1
      have fj0 := OJ.out.fz 0
      have fj1 := OJ.out.fz 1
      have hjw : ob ≠ wr.heap.size := by omega
      have hwf : IntKind.i64.wrap (f - 1) = f - 1 := by rw [IntKind.wrap_i64]; omega
      have hwt : IntKind.i64.wrap (t + 1) = t + 1 := by rw [IntKind.wrap_i64]; omega
      go_wp2_with fail
      refine (HC.out _).mono ?_
      rintro e wq ⟨rfl, rfl⟩
      have ey : ov (f, t) (y.1, y.2) = ov (f, t) y := rfl
      rw [ey]
      clear ey HC
      generalize ov (f, t) y = o at *
      by_cases ht1 : f - 1 ≤ y.2
      · by_cases ht2 : y.1 ≤ t + 1
        · by_cases ht3 : y.1 < j.1
          · by_cases ht4 : j.2 < y.2
            · go_wp2
              go_roundw
              case rel =>
                refine ⟨k + 1, (y.1, y.2), by omega, by go_num, by rw [← HV.out], ?_, ((OJ.out.set0 y.1).set1 y.2).q ((Q.refl _).alloc _), ((KP.out.setCell ob 0 _ (.inl rfl)).setCell ob 1 _ (.inl rfl)).alloc _⟩
                rw [← HJ.out, HD.out]
                simp only [jnc]
                rw [if_pos ⟨ht1, ht2⟩, show min j.1 y.1 = y.1 by omega, show max j.2 y.2 = y.2 by omega]
              case measure => simp [intOf]; omega
            · go_wp2
              go_roundw
              case rel =>
                refine ⟨k + 1, (y.1, j.2), by omega, by go_num, by rw [← HV.out], ?_, (OJ.out.set0 y.1).q ((Q.refl _).alloc _), (KP.out.setCell ob 0 _ (.inl rfl)).alloc _⟩
                rw [← HJ.out, HD.out]
                simp only [jnc]
                rw [if_pos ⟨ht1, ht2⟩, show min j.1 y.1 = y.1 by omega, show max j.2 y.2 = j.2 by omega]
              case measure => simp [intOf]; omega
          · by_cases ht4 : j.2 < y.2
            · go_wp2
              go_roundw
              case rel =>
                refine ⟨k + 1, (j.1, y.2), by omega, by go_num, by rw [← HV.out], ?_, (OJ.out.set1 y.2).q ((Q.refl _).alloc _), (KP.out.setCell ob 1 _ (.inl rfl)).alloc _⟩
                rw [← HJ.out, HD.out]
                simp only [jnc]
                rw [if_pos ⟨ht1, ht2⟩, show min j.1 y.1 = j.1 by omega, show max j.2 y.2 = y.2 by omega]
              case measure => simp [intOf]; omega
            · go_wp2
              go_roundw
              case rel =>
                refine ⟨k + 1, j, by omega, by go_num, by rw [← HV.out], ?_, OQ.out, KP.out.trans (Keep.ofQ HQ.out)⟩
                rw [← HJ.out, HD.out]
                simp only [jnc]
                rw [if_pos ⟨ht1, ht2⟩, show min j.1 y.1 = j.1 by omega, show max j.2 y.2 = j.2 by omega]
              case measure => simp [intOf]; omega
        · go_wp2
          go_roundw
          case rel =>
            refine ⟨k + 1, j, by omega, by go_num, by rw [← HV.out], ?_, OQ.out, KP.out.trans (Keep.ofQ HQ.out)⟩
            rw [← HJ.out, HD.out]
            simp only [jnc]
            rw [if_neg (by omega)]
          case measure => simp [intOf]; omega
      · first
        | (exfalso; omega)
        | (have ht1' : decide (f - 1 ≤ y.2) = false := by simp; omega
           go_wp2
           go_roundw
           case rel =>
             refine ⟨k + 1, j, by omega, by go_num, by rw [← HV.out], ?_, OQ.out, KP.out.trans (Keep.ofQ HQ.out)⟩
             rw [← HJ.out, HD.out]
             simp only [jnc]
             rw [if_neg (by omega)]
           case measure => simp [intOf]; omega)
    · obtain rfl : k = n := by omega
      have ejn : j = jnc f t (f, t) xs := by
        rw [← HJ.out, List.drop_of_length_le (by rw [HL.out]; exact Nat.le_refl _)]; rfl
      have eov : t - f + 1 - ovs (f, t) xs + ovs (f, t) (xs.drop k) = t - f + 1 - ovs (f, t) xs := by
        rw [List.drop_of_length_le (by rw [HL.out]; exact Nat.le_refl _)]; simp [ovs]
      have EJ := hid ejn
      have EV := hid eov
      have KQ := hid (show Q w wr from ((Keep.ofQ (F := fun x => x = ob) K1.out).trans KP.out).toQ (fun i hi e => by have := HOB.out; omega))
      clear ejn eov
      generalize t - f + 1 - ovs (f, t) xs + ovs (f, t) (xs.drop k) = V at *
      go_wp2
      have HPB := hid (show ∀ y ∈ pl j false xs, 0 ≤ y.2 ∧ y.2 ≤ 4611686018427387904 from by rw [EJ.out, jnc_eq HA.out g1, pl_eq HA.out g1]; intro y hy; have := (merged_ap HA.out GLO.out g1 h2).mem y hy; omega)
      generalize hwz : wr = wz at *
      clear hwz
      go_loopw [12, 13, 14] (fun v12 v13 v14 wx => ∃ i : Nat, ∃ ad : Option Addr, ∃ m cc : Nat, ∃ ys : List Sp, ∃ pb : Bool, i ≤ k ∧ v14 = .int .i64 i ∧ v12 = .slice ad m cc ∧ v13 = .bool pb ∧ Own wx wz.heap.size ad m cc ys ∧ m ≤ i + pb.toNat ∧ ys ++ pl j pb (xs.drop i) = pl j false xs ∧ Q wz wx) (fun _ _ i _ => k - (intOf i).toNat)
      case atStart => exact ⟨0, none, 0, 0, [], false, Nat.zero_le _, rfl, rfl, rfl, own_nil _ _, by simp, rfl, Q.refl _⟩
      case round =>
        obtain ⟨i, ad, m, cc, ys, pb, hi, rfl, rfl, rfl, how, hm, hpl, hq⟩ := hrel
        have OW := hid how
        have PL := hid hpl
        have HX := hid hq
        have hszx := hq.size
        have Sx := hid (Sr.out.q hq)
        have Jx := hid (OJ.out.q hq)
        have c2 := Sx.out.hd.c2
        have hrx := Sx.out.hd.lt
        have j0 := Jx.out.d0
        have j1 := Jx.out.d1
        have hjx := Jx.out.ltt
        clear how hpl hq


        by_cases hik : i < k
        · obtain ⟨b, off, rfl, d0, d1, d2⟩ := seg_last Sx.out.seg HL.out hik
          have HD := hid (drop_cons (xs := xs) (k := i) (by rw [HL.out]; exact hik))
          have hlt' : (i : Int) < (k : Int) := by omega
          generalize xs.getD i (0, 0) = y at *
          by_cases ht1 : j.1 ≤ y.1 ∧ y.2 ≤ j.2
          · obtain ⟨ht1, ht2⟩ := ht1
            have e1 : pl j pb (xs.drop i) = pl j pb (xs.drop (i + 1)) := by
              rw [HD.out]; simp only [pl]; rw [if_pos ⟨ht1, ht2⟩]
            have E1 := hid e1
            clear e1
            go_wp2
            go_roundw
            case rel =>
              refine ⟨i + 1, ad, m, cc, ys, pb, by omega, by go_num, rfl, rfl, OW.out.q ((Q.refl _).alloc _), by omega, ?_, HX.out.trans ((Q.refl _).alloc _)⟩
              rw [← E1.out]; exact PL.out
            case measure => simp [intOf]; omega
          · have HT1 := hid ht1
            clear ht1
            by_cases ht3 : j.2 < y.1
            · cases pb with
              | false =>
                have hpb : false = false := rfl
                simp only [Bool.toNat_false, Nat.add_zero] at hm
                by_cases hg : j.1 ≤ y.1
                · have hg2 : ¬ y.2 ≤ j.2 := fun h => HT1.out ⟨hg, h⟩
                  obtain ⟨a1, cap1, w1', hr1, ho1, hx1, hk1⟩ := append_two OW.out y j (by omega) (by omega)
                  have x0 := hx1.d0
                  have x1 := hx1.d1
                  have hx2 := hx1.ltt
                  obtain ⟨a2, cap2, w2', hr2, ho2, hk2⟩ := append_new1 ho1 y (by omega) (by have := hk1.size; omega)
                  have O2 := hid ho2
                  have Q2 := hid (show Q wz w2' from (HX.out.over OW.out hk1).over ho1 hk2)
                  have e1 : ys ++ [j] ++ [y] ++ pl j true (xs.drop (i + 1)) = pl j false xs := by
                    rw [← PL.out, HD.out]; simp only [pl]; rw [if_neg HT1.out, if_pos ⟨ht3, trivial⟩]; simp
                  have E1 := hid e1
                  clear e1 ho1 hx1 hk1 ho2 hk2
                  go_wp2_with (at_builtin; first | refine Lib.wpList_append_run _ rfl _ _ _ _ rfl _ _ rfl rfl _ _ hr1 ?_ | refine Lib.wpList_append_run _ rfl _ _ _ _ rfl _ _ rfl rfl _ _ hr2 ?_)
                  go_roundw
                  case rel => exact ⟨i + 1, a2, m + 1 + 1, cap2, ys ++ [j] ++ [y], true, by omega, by go_num, rfl, rfl, O2.out, by simp; omega, E1.out, Q2.out⟩
                  case measure => simp [intOf]; omega
                · have hg1 : decide (j.1 ≤ y.1) = false := by simp; omega
                  obtain ⟨a1, cap1, w1', hr1, ho1, hx1, hk1⟩ := append_two OW.out y j (by omega) (by omega)
                  have x0 := hx1.d0
                  have x1 := hx1.d1
                  have hx2 := hx1.ltt
                  obtain ⟨a2, cap2, w2', hr2, ho2, hk2⟩ := append_new1 ho1 y (by omega) (by have := hk1.size; omega)
                  have O2 := hid ho2
                  have Q2 := hid (show Q wz w2' from (HX.out.over OW.out hk1).over ho1 hk2)
                  have e1 : ys ++ [j] ++ [y] ++ pl j true (xs.drop (i + 1)) = pl j false xs := by
                    rw [← PL.out, HD.out]; simp only [pl]; rw [if_neg HT1.out, if_pos ⟨ht3, trivial⟩]; simp
                  have E1 := hid e1
                  clear e1 ho1 hx1 hk1 ho2 hk2
                  go_wp2_with (at_builtin; first | refine Lib.wpList_append_run _ rfl _ _ _ _ rfl _ _ rfl rfl _ _ hr1 ?_ | refine Lib.wpList_append_run _ rfl _ _ _ _ rfl _ _ rfl rfl _ _ hr2 ?_)
                  go_roundw
                  case rel => exact ⟨i + 1, a2, m + 1 + 1, cap2, ys ++ [j] ++ [y], true, by omega, by go_num, rfl, rfl, O2.out, by simp; omega, E1.out, Q2.out⟩
                  case measure => simp [intOf]; omega
              | true =>
                have HT3 := hid (show ¬ (j.2 < y.1 ∧ true = false) by simp)
                simp only [Bool.toNat_true] at hm
                by_cases hg : j.1 ≤ y.1
                · have hg2 : ¬ y.2 ≤ j.2 := fun h => HT1.out ⟨hg, h⟩
                  obtain ⟨a2, cap2, w2', hr2, ho2, _, hk2⟩ := append_new OW.out y y (by omega) (by omega)
                  have O2 := hid ho2
                  have Q2 := hid (show Q wz w2' from HX.out.over OW.out hk2)
                  have e1 : ys ++ [y] ++ pl j true (xs.drop (i + 1)) = pl j false xs := by
                    rw [← PL.out, HD.out]; simp only [pl]; rw [if_neg HT1.out, if_neg HT3.out]; simp
                  have E1 := hid e1
                  clear e1 ho2 hk2
                  go_wp2_with (at_builtin; refine Lib.wpList_append_run _ rfl _ _ _ _ rfl _ _ rfl rfl _ _ hr2 ?_)
                  go_roundw
                  case rel => exact ⟨i + 1, a2, m + 1, cap2, ys ++ [y], true, by omega, by go_num, rfl, rfl, O2.out, by simp; omega, E1.out, Q2.out⟩
                  case measure => simp [intOf]; omega
                · have hg1 : decide (j.1 ≤ y.1) = false := by simp; omega
                  obtain ⟨a2, cap2, w2', hr2, ho2, _, hk2⟩ := append_new OW.out y y (by omega) (by omega)
                  have O2 := hid ho2
                  have Q2 := hid (show Q wz w2' from HX.out.over OW.out hk2)
                  have e1 : ys ++ [y] ++ pl j true (xs.drop (i + 1)) = pl j false xs := by
                    rw [← PL.out, HD.out]; simp only [pl]; rw [if_neg HT1.out, if_neg HT3.out]; simp
                  have E1 := hid e1
                  clear e1 ho2 hk2
                  go_wp2_with (at_builtin; refine Lib.wpList_append_run _ rfl _ _ _ _ rfl _ _ rfl rfl _ _ hr2 ?_)
                  go_roundw
                  case rel => exact ⟨i + 1, a2, m + 1, cap2, ys ++ [y], true, by omega, by go_num, rfl, rfl, O2.out, by simp; omega, E1.out, Q2.out⟩
                  case measure => simp [intOf]; omega
            · have HT3 := hid (show ¬ (j.2 < y.1 ∧ pb = false) from fun h => ht3 h.1)
              have hm' : m ≤ 90 := by have : pb.toNat ≤ 1 := by cases pb <;> simp
                                      omega
              by_cases hg : j.1 ≤ y.1
              · have hg2 : ¬ y.2 ≤ j.2 := fun h => HT1.out ⟨hg, h⟩
                obtain ⟨a2, cap2, w2', hr2, ho2, _, hk2⟩ := append_new OW.out y y (by omega) (by omega)
                have O2 := hid ho2
                have Q2 := hid (show Q wz w2' from HX.out.over OW.out hk2)
                have e1 : ys ++ [y] ++ pl j pb (xs.drop (i + 1)) = pl j false xs := by
                  rw [← PL.out, HD.out]; simp only [pl]; rw [if_neg HT1.out, if_neg HT3.out]; simp
                have E1 := hid e1
                clear e1 ho2 hk2
                go_wp2_with (at_builtin; refine Lib.wpList_append_run _ rfl _ _ _ _ rfl _ _ rfl rfl _ _ hr2 ?_)
                go_roundw
                case rel => exact ⟨i + 1, a2, m + 1, cap2, ys ++ [y], pb, by omega, by go_num, rfl, rfl, O2.out, by omega, E1.out, Q2.out⟩
                case measure => simp [intOf]; omega
              · have hg1 : decide (j.1 ≤ y.1) = false := by simp; omega
                obtain ⟨a2, cap2, w2', hr2, ho2, _, hk2⟩ := append_new OW.out y y (by omega) (by omega)
                have O2 := hid ho2
                have Q2 := hid (show Q wz w2' from HX.out.over OW.out hk2)
                have e1 : ys ++ [y] ++ pl j pb (xs.drop (i + 1)) = pl j false xs := by
                  rw [← PL.out, HD.out]; simp only [pl]; rw [if_neg HT1.out, if_neg HT3.out]; simp
                have E1 := hid e1
                clear e1 ho2 hk2
                go_wp2_with (at_builtin; refine Lib.wpList_append_run _ rfl _ _ _ _ rfl _ _ rfl rfl _ _ hr2 ?_)
                go_roundw
                case rel => exact ⟨i + 1, a2, m + 1, cap2, ys ++ [y], pb, by omega, by go_num, rfl, rfl, O2.out, by omega, E1.out, Q2.out⟩
                case measure => simp [intOf]; omega
        · obtain rfl : i = k := by omega
          have hpn : pl j pb (xs.drop i) = pl j pb [] := by rw [List.drop_of_length_le (by rw [HL.out]; exact Nat.le_refl _)]
          rw [hpn] at PL
          clear hpn
          cases pb with
          | true =>
            have hY : ys = pl j false xs := by rw [← PL.out]; simp [pl]
            simp only [Bool.toNat_true] at hm
            rw [hY] at OW
            have OF := hid OW.out
            have KF := hid HX.out
            have SF := hid (Sr.out.q KF.out)
            have hc0 := SF.out.hd.c0
            have hc1 := SF.out.hd.c1
            have hc2 := SF.out.hd.c2
            have hf1 := SF.out.hd.free 1
            have hf2 := SF.out.hd.free 2
            have hYl : (pl j false xs).length = m := OF.out.len
            have hWz := KQ.out.size
            have hWz2 := KF.out.size
            have HLT := hid OF.out.lt
            have m0 := HM0.out
            by_cases hmm : most < ((m : Nat) : Int)
            · have hmm2 : most < (pl j false xs).length := by omega
              obtain ⟨ff, fl⟩ := fit_many (floor := f) hmm2
              obtain ⟨b0, off0, hab0, hcel⟩ := OF.out.seg.cel hYl (by omega)
              obtain ⟨g, hg0⟩ : ∃ g, ad = some ⟨g, 0, none⟩ := by
                rcases OF.out.row with ⟨_, h1, _⟩ | ⟨g, cur, h1, _⟩
                · omega
                · exact ⟨g, h1⟩
              subst hg0
              have hgb := (HLT.out g rfl).1
              obtain ⟨rfl, rfl⟩ : g = b0 ∧ 0 = off0 := by simpa using hab0
              obtain ⟨e0, e1, e2⟩ := hcel.at_ hYl (show 0 < m by omega)
              simp only [Nat.zero_mul, Nat.add_zero, Nat.zero_add] at e0 e1 e2
              have hyb : (pl j false xs).getD 0 (0, 0) ∈ pl j false xs := by
                rw [List.getD_eq_getElem?_getD, List.getElem?_eq_getElem (by omega)]; simp
              have hyv := HPB.out _ hyb
              have hgr : g ≠ rd := by omega
              have hnc : m ≤ cc := by
                rcases OF.out.row with ⟨_, h1, h2, _⟩ | ⟨_, _, _, _, _, h1, _⟩
                · omega
                · exact h1
              have hcm : ((cc : Nat) : Int) ≤ 9223372036854775807 := by
                rcases OF.out.row with ⟨_, h1, h2, _⟩ | ⟨_, _, _, _, _, _, h1, _⟩
                · omega
                · unfold maxLen at h1; omega
              have hM0 : (0 : Int) < ((m : Nat) : Int) := by omega
              have hM1 : (1 : Int) ≤ ((m : Nat) : Int) := by omega
              have hM2 : 1 ≤ m := by omega
              have FF := hid ff
              have FL := hid fl
              clear hcel hyb hab0 ff fl hmm2
              generalize hy0 : (pl j false xs).getD 0 (0, 0) = y0 at *
              have hw9 : IntKind.i64.wrap (y0.2 + 1) = y0.2 + 1 := by rw [IntKind.wrap_i64]; omega
              by_cases hcc : cc = 1
              · have hm1 := hid (show m = 1 by omega)
                have hccT : (cc = 1) = True := by simp [hcc]
                clear hcc
                go_wp2
                go_ret2
                rw [HF.out, ← EJ.out, FF.out, FL.out]
                refine ⟨by rw [← EV.out]; rfl, ⟨_, _, _, rt_many SF.out OF.out hgr (by omega) _ _ _ (.inl ⟨hm1.out, rfl⟩), ?_⟩, ((Keep.ofQ (F := fun k => k = rd) (KQ.out.trans KF.out)).setCell rd 1 _ (.inl rfl)).setCell rd 2 _ (.inl rfl)⟩
                intro b hb
                have hb' : g = b := by simpa [blk] using hb
                omega
              · go_wp2
                go_ret2
                rw [HF.out, ← EJ.out, FF.out, FL.out]
                refine ⟨by rw [← EV.out]; rfl, ⟨_, _, _, rt_many SF.out OF.out hgr (by omega) _ _ _ (.inr rfl), ?_⟩, ((Keep.ofQ (F := fun k => k = rd) (KQ.out.trans KF.out)).setCell rd 1 _ (.inl rfl)).setCell rd 2 _ (.inl rfl)⟩
                intro b hb
                have hb' : g = b := by simpa [blk] using hb
                omega
            · have hmm2 : ¬ most < (pl j false xs).length := by omega
              obtain ⟨ff, fl⟩ := fit_few (floor := f) hmm2
              have FF := hid ff
              have FL := hid fl
              clear ff fl hmm2
              go_wp2
              go_ret2
              rw [HF.out, ← EJ.out, FF.out, FL.out]
              have hfew := rt_few SF.out OF.out (fun b hb e => by have := (HLT.out b hb).1; omega)
              have hlow : ∀ b, blk ad = some b → w.heap.size ≤ b := fun b hb => by have := (HLT.out b hb).1; omega
              have hkk := (Keep.ofQ (F := fun k => k = rd) (KQ.out.trans KF.out)).setCell rd 2 (.slice ad m cc) (.inl rfl)
              first
              | exact ⟨by rw [← EV.out]; rfl, ⟨ad, m, cc, hfew, hlow⟩, hkk⟩
              | exact ⟨by rw [← EV.out]; rfl, ⟨ad, ⟨m, cc, hfew⟩, hlow⟩, hkk⟩
          | false =>
            have hY : ys ++ [j] = pl j false xs := by rw [← PL.out]; simp [pl]
            simp only [Bool.toNat_false, Nat.add_zero] at hm
            obtain ⟨a2, cap2, w2, hr2, ho2, hk2⟩ := append_new1 OW.out j (by omega) (by omega)
            have Q2 := hid (show Q wz w2 from HX.out.over OW.out hk2)
            rw [hY] at ho2
            have O2 := hid ho2
            clear ho2 hk2
            have OF := hid O2.out
            have KF := hid Q2.out
            have SF := hid (Sr.out.q KF.out)
            have hc0 := SF.out.hd.c0
            have hc1 := SF.out.hd.c1
            have hc2 := SF.out.hd.c2
            have hf1 := SF.out.hd.free 1
            have hf2 := SF.out.hd.free 2
            have hYl : (pl j false xs).length = (m + 1) := OF.out.len
            have hWz := KQ.out.size
            have hWz2 := KF.out.size
            have HLT := hid OF.out.lt
            have m0 := HM0.out
            by_cases hmm : most < (((m + 1) : Nat) : Int)
            · have hmm2 : most < (pl j false xs).length := by omega
              obtain ⟨ff, fl⟩ := fit_many (floor := f) hmm2
              obtain ⟨b0, off0, hab0, hcel⟩ := OF.out.seg.cel hYl (by omega)
              obtain ⟨g, hg0⟩ : ∃ g, a2 = some ⟨g, 0, none⟩ := by
                rcases OF.out.row with ⟨_, h1, _⟩ | ⟨g, cur, h1, _⟩
                · omega
                · exact ⟨g, h1⟩
              subst hg0
              have hgb := (HLT.out g rfl).1
              obtain ⟨rfl, rfl⟩ : g = b0 ∧ 0 = off0 := by simpa using hab0
              obtain ⟨e0, e1, e2⟩ := hcel.at_ hYl (show 0 < (m + 1) by omega)
              simp only [Nat.zero_mul, Nat.add_zero, Nat.zero_add] at e0 e1 e2
              have hyb : (pl j false xs).getD 0 (0, 0) ∈ pl j false xs := by
                rw [List.getD_eq_getElem?_getD, List.getElem?_eq_getElem (by omega)]; simp
              have hyv := HPB.out _ hyb
              have hgr : g ≠ rd := by omega
              have hnc : (m + 1) ≤ cap2 := by
                rcases OF.out.row with ⟨_, h1, h2, _⟩ | ⟨_, _, _, _, _, h1, _⟩
                · omega
                · exact h1
              have hcm : ((cap2 : Nat) : Int) ≤ 9223372036854775807 := by
                rcases OF.out.row with ⟨_, h1, h2, _⟩ | ⟨_, _, _, _, _, _, h1, _⟩
                · omega
                · unfold maxLen at h1; omega
              have hM0 : (0 : Int) < (((m + 1) : Nat) : Int) := by omega
              have hM1 : (1 : Int) ≤ (((m + 1) : Nat) : Int) := by omega
              have hM2 : 1 ≤ (m + 1) := by omega
              have FF := hid ff
              have FL := hid fl
              clear hcel hyb hab0 ff fl hmm2
              generalize hy0 : (pl j false xs).getD 0 (0, 0) = y0 at *
              have hw9 : IntKind.i64.wrap (y0.2 + 1) = y0.2 + 1 := by rw [IntKind.wrap_i64]; omega
              by_cases hcc : cap2 = 1
              · have hm1 := hid (show (m + 1) = 1 by omega)
                have hccT : (cap2 = 1) = True := by simp [hcc]
                clear hcc
                go_wp2_with (at_builtin; refine Lib.wpList_append_run _ rfl _ _ _ _ rfl _ _ rfl rfl _ _ hr2 ?_)
                go_ret2
                rw [HF.out, ← EJ.out, FF.out, FL.out]
                refine ⟨by rw [← EV.out]; rfl, ⟨_, _, _, rt_many SF.out OF.out hgr (by omega) _ _ _ (.inl ⟨hm1.out, rfl⟩), ?_⟩, ((Keep.ofQ (F := fun k => k = rd) (KQ.out.trans KF.out)).setCell rd 1 _ (.inl rfl)).setCell rd 2 _ (.inl rfl)⟩
                intro b hb
                have hb' : g = b := by simpa [blk] using hb
                omega
              · go_wp2_with (at_builtin; refine Lib.wpList_append_run _ rfl _ _ _ _ rfl _ _ rfl rfl _ _ hr2 ?_)
                go_ret2
                rw [HF.out, ← EJ.out, FF.out, FL.out]
                refine ⟨by rw [← EV.out]; rfl, ⟨_, _, _, rt_many SF.out OF.out hgr (by omega) _ _ _ (.inr rfl), ?_⟩, ((Keep.ofQ (F := fun k => k = rd) (KQ.out.trans KF.out)).setCell rd 1 _ (.inl rfl)).setCell rd 2 _ (.inl rfl)⟩
                intro b hb
                have hb' : g = b := by simpa [blk] using hb
                omega
            · have hmm2 : ¬ most < (pl j false xs).length := by omega
              obtain ⟨ff, fl⟩ := fit_few (floor := f) hmm2
              have FF := hid ff
              have FL := hid fl
              clear ff fl hmm2
              go_wp2_with (at_builtin; refine Lib.wpList_append_run _ rfl _ _ _ _ rfl _ _ rfl rfl _ _ hr2 ?_)
              go_ret2
              rw [HF.out, ← EJ.out, FF.out, FL.out]
              have hfew := rt_few SF.out OF.out (fun b hb e => by have := (HLT.out b hb).1; omega)
              have hlow : ∀ b, blk a2 = some b → w.heap.size ≤ b := fun b hb => by have := (HLT.out b hb).1; omega
              have hkk := (Keep.ofQ (F := fun k => k = rd) (KQ.out.trans KF.out)).setCell rd 2 (.slice a2 (m + 1) cap2) (.inl rfl)
              first
              | exact ⟨by rw [← EV.out]; rfl, ⟨a2, (m + 1), cap2, hfew, hlow⟩, hkk⟩
              | exact ⟨by rw [← EV.out]; rfl, ⟨a2, ⟨(m + 1), cap2, hfew⟩, hlow⟩, hkk⟩

end Go.Proofs.Ytmcemfjnenfcaaa
