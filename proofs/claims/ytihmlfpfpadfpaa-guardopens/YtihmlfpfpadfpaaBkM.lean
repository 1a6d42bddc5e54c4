/-
  That unprotecting undoes protecting, as plain mathematics. Nothing is proved of a statement here.
-/
import Derived.Test.YtihmlfpfpadfpaaUnp
namespace Go.Proofs.Ytihmlfpfpadfpaa
open Go.RowKit
set_option linter.unusedVariables false
set_option maxRecDepth 20000

theorem bnd_take (kz iz hs : List Int) (num : Int) (wn : Nat) (ps : List Int) : (plnL kz iz hs num wn ps).take (hs.length + wn) = bndL hs num wn := by
  have hl : (bndL hs num wn).length = hs.length + wn := by unfold bndL; rw [List.length_append, be_length]
  unfold plnL
  rw [← hl, List.take_left']
  rfl
theorem bnd_drop (kz iz hs : List Int) (num : Int) (wn : Nat) (ps : List Int) : (plnL kz iz hs num wn ps).drop (hs.length + wn) = sealL kz (nonL iz num) (bndL hs num wn) ps := by
  have hl : (bndL hs num wn).length = hs.length + wn := by unfold bndL; rw [List.length_append, be_length]
  unfold plnL
  rw [← hl, List.drop_left']
  rfl
theorem pln_fst (kz iz hs : List Int) (num : Int) (wn : Nat) (ps : List Int) (h : 0 < hs.length) : (plnL kz iz hs num wn ps).getD 0 0 = hs.getD 0 0 := by
  unfold plnL bndL
  rw [List.getD_eq_getElem?_getD, List.getD_eq_getElem?_getD, List.append_assoc, List.getElem?_append_left h]
/-- Who has the keys gets the number, the payload and the first byte back. -/
theorem un_pro {kz iz hz hs ps : List Int} {num wd high : Int} (he : ptE kz.length iz.length hz.length hs.length num wd ps.length = 0) (zh : By hs) (zp : By ps) (hf : hs.getD 0 0 % 4 = wd - 1)
    (h0 : -1 ≤ high) (h1 : high ≤ 4611686018427387903) (hx : expM high (num % 256 ^ wd.toNat) wd = num) :
    umF hz (proL kz iz hz hs num wd.toNat ps) hs.length = hs.getD 0 0 ∧ umN hz (proL kz iz hz hs num wd.toNat ps) hs.length high = num ∧ umB hz (proL kz iz hz hs num wd.toNat ps) hs.length = bndL hs num wd.toNat ∧
      umS hz (proL kz iz hz hs num wd.toNat ps) hs.length = sealL kz (nonL iz num) (bndL hs num wd.toNat) ps ∧ chP (proL kz iz hz hs num wd.toNat ps).length hs.length high = 0 := by
  obtain ⟨k1, k2, k3, d0, d1, p1, pw, w1, w4, n0, n1⟩ := ptE_ok he
  obtain ⟨wn, rfl⟩ : ∃ m : Nat, wd = (m : Int) := ⟨wd.toNat, by omega⟩
  rw [Int.toNat_natCast] at hx ⊢
  have hlen := plnL_len kz iz hs num wn ps
  have hpf := pln_fst kz iz hs num wn ps d0
  have hum := unmask_mask hz (plnL_lt (ks := kz) (iv := iz) zh zp num wn) hs.length wn d0 (by omega) (by omega) (by rw [hpf]; exact hf)
  obtain ⟨u1, u2, u3, u4⟩ := hum
  have hP : proL kz iz hz hs num wn ps = mskA hz (plnL kz iz hs num wn ps) hs.length wn := rfl
  rw [← hP] at u1 u2 u3 u4
  rw [bnd_take] at u3
  rw [bnd_drop] at u4
  refine ⟨by rw [u1, hpf], ?_, u3, u4, ?_⟩
  · unfold umN
    rw [u2, u3]
    unfold bndL
    rw [List.drop_left' rfl, val_be, Int.zero_mul, Int.zero_add]
    exact hx
  · rw [proL_len]
    unfold chP
    rw [if_neg (by omega), if_neg (by omega), if_neg (by omega)]
theorem us_seal {kz iz hs ps : List Int} {num wd : Int} {hl : Nat} (he : ptE kz.length iz.length hl hs.length num wd ps.length = 0) (zp : By ps) (hr : rsv (hs.getD 0 0) = false) :
    usE kz iz (bndL hs num wd.toNat) num (sealL kz (nonL iz num) (bndL hs num wd.toNat) ps) = 0 ∧ usR kz iz (bndL hs num wd.toNat) num (sealL kz (nonL iz num) (bndL hs num wd.toNat) ps) = ps := by
  obtain ⟨k1, k2, k3, d0, d1, p1, pw, w1, w4, n0, n1⟩ := ptE_ok he
  have hc : chkE kz.length (nonL iz num).length (bndL hs num wd.toNat).length ps.length = 0 := by
    unfold chkE
    rw [nonL_len, if_neg (by omega), if_neg (by unfold bndL; rw [List.length_append, be_length]; omega)]
  have ho := open_seal kz (nonL iz num) (bndL hs num wd.toNat) ps zp hc
  have hf : (bndL hs num wd.toNat).getD 0 0 = hs.getD 0 0 := by
    unfold bndL
    rw [List.getD_eq_getElem?_getD, List.getD_eq_getElem?_getD, List.getElem?_append_left d0]
  have hE : usE kz iz (bndL hs num wd.toNat) num (sealL kz (nonL iz num) (bndL hs num wd.toNat) ps) = 0 := by
    unfold usE
    rw [ho.1, if_neg (by omega), hf, hr]
    rfl
  refine ⟨hE, ?_⟩
  unfold usR
  rw [hE, if_pos rfl]
  exact ho.2
theorem un_all {kz iz hz hs ps : List Int} {num wd high : Int} (he : ptE kz.length iz.length hz.length hs.length num wd ps.length = 0) (zh : By hs) (zp : By ps) (hf : hs.getD 0 0 % 4 = wd - 1) (hr : rsv (hs.getD 0 0) = false)
    (h0 : -1 ≤ high) (h1 : high ≤ 4611686018427387903) (hx : expM high (num % 256 ^ wd.toNat) wd = num) :
    unE kz iz hz (proL kz iz hz hs num wd.toNat ps) hs.length high = 0 ∧ unN kz iz hz (proL kz iz hz hs num wd.toNat ps) hs.length high = num ∧ unF kz iz hz (proL kz iz hz hs num wd.toNat ps) hs.length high = hs.getD 0 0 ∧ unX kz iz hz (proL kz iz hz hs num wd.toNat ps) hs.length high = ps := by
  obtain ⟨k1, k2, k3, _⟩ := ptE_ok he
  obtain ⟨u1, u2, u3, u4, u5⟩ := un_pro (hz := hz) he zh zp hf h0 h1 hx
  have us := us_seal he zp hr
  have hE : unE kz iz hz (proL kz iz hz hs num wd.toNat ps) hs.length high = 0 := by
    unfold unE
    rw [show kyE kz.length iz.length hz.length = 0 from by unfold kyE; rw [if_pos ⟨k1, k2, k3⟩], if_neg (by omega), u5, if_neg (by omega), Int.toNat_natCast, u2, u3, u4]
    exact us.1
  refine ⟨hE, ?_, ?_, ?_⟩
  · unfold unN; rw [hE, if_pos rfl, Int.toNat_natCast, u2]
  · unfold unF; rw [hE, if_pos rfl, Int.toNat_natCast, u1]
  · unfold unX; rw [hE, if_pos rfl, Int.toNat_natCast, u2, u3, u4]; exact us.2
theorem exp_back {num wd : Int} (w1 : 1 ≤ wd) (w4 : wd ≤ 4) (n0 : 0 ≤ num) (n1 : num ≤ 4611686018427387903) : expM (num - 1) (num % 256 ^ wd.toNat) wd = num := by
  have hs := stp_cases w1 w4
  have hp : (256 : Int) ^ wd.toNat = stp wd := by
    rcases hs with ⟨rfl, e⟩ | ⟨rfl, e⟩ | ⟨rfl, e⟩ | ⟨rfl, e⟩ <;> rw [e] <;> rfl
  rw [hp]
  unfold expM
  have hm : 0 ≤ num % stp wd ∧ num % stp wd < stp wd := ⟨Int.emod_nonneg _ (by omega), Int.emod_lt_of_pos _ (by omega)⟩
  rw [if_neg (by omega)]
  exact exp_told (by omega) (by omega) (by omega) (by omega) n1
end Go.Proofs.Ytihmlfpfpadfpaa
