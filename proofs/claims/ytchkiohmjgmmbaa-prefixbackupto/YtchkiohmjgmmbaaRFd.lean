/-
  What the document's own nth, bit and find answer. Contracts that the walk of its Decode uses.
-/
import Derived.Test.YtchkiohmjgmmbaaRCl
namespace Go.Proofs.Ytchkiohmjgmmbaa
open Go.RowKit
set_option linter.unusedVariables false
set_option maxRecDepth 100000

theorem ot_pre : ∀ (d k : Nat), ∃ r, ot (k + d) = ot k ++ r
  | 0, k => ⟨[], by simp⟩
  | d + 1, k => by
    obtain ⟨r, hr⟩ := ot_pre d k
    rw [show k + (d + 1) = (k + d) + 1 by omega, ot_succ]
    split
    · exact ⟨r ++ [((k + d : Nat) : Int)], by rw [hr, List.append_assoc]⟩
    · exact ⟨r, hr⟩
theorem ot_get {k : Nat} (hk : k < 256) (h : (k : Int) ∈ hq15) : hq15[(ot k).length]? = some (k : Int) := by
  obtain ⟨r, hr⟩ := ot_pre (256 - (k + 1)) (k + 1)
  rw [show k + 1 + (256 - (k + 1)) = 256 by omega, ot_all, ot_succ, if_pos h] at hr
  rw [hr, List.append_assoc, List.getElem?_append_right (Nat.le_refl _), Nat.sub_self]
  rfl
theorem ot_lt {k : Nat} (hk : k < 256) (h : (k : Int) ∈ hq15) : (ot k).length < 182 := by
  have := (List.getElem?_eq_some_iff.1 (ot_get hk h)).1
  exact this
theorem hl15_ok : (List.range 256).all (fun (k : Nat) => decide (hl (k : Int) = 15) == decide ((k : Int) ∈ hq15)) = true := by decide +kernel
theorem hl15 {k : Nat} (hk : k < 256) : decide (hl (k : Int) = 15) = decide ((k : Int) ∈ hq15) := by
  have := List.all_eq_true.1 hl15_ok k (List.mem_range.2 hk)
  simpa using this
set_option maxHeartbeats 2000000 in
theorem nth15_any (p : Nat) (w : World) (hp : p < 182) : Calls Try.prog 50 #[.int .i64 15, .int .i64 p] w fun e w' => e = .returned (.int .u8 (hq15.getD p 0)) ∧ w = w' := by
  have HL := hid length_any
  obtain ⟨v, hv⟩ : ∃ v, hq15.getD p 0 = v := ⟨_, rfl⟩
  have HV := hid hv
  rw [hv]
  clear hv
  go_enter Try.func50, Try.ntmps50
  go_wp2
  go_loopw [1, 5] (fun q i wr => wr = w ∧ ∃ k d : Nat, k ≤ 256 ∧ i = .int .i64 k ∧ q = .int .i64 d ∧ d + (ot k).length = p) (fun _ i _ => ((256 : Int) - intOf i).toNat)
  case atStart => exact ⟨rfl, 0, p, by omega, rfl, rfl, rfl⟩
  case round =>
    obtain ⟨rfl, k, d, hk, rfl, rfl, hd⟩ := hrel
    by_cases hkn : k < 256
    · have hki : (k : Int) < 256 := by omega
      have hwk : IntKind.u8.wrap (k : Int) = k := by rw [IntKind.wrap_u8]; omega
      have h15 := hl15 hkn
      have HLK := hid (HL.out k wr)
      have hlb := hl_bd (k : Int)
      by_cases hm : (k : Int) ∈ hq15
      · rw [decide_eq_true hm] at h15
        have h15' : hl (k : Int) = 15 := of_decide_eq_true h15
        rw [h15'] at HLK
        clear h15 h15' hlb
        by_cases hd0 : d = 0
        · subst hd0
          have hg := ot_get hkn hm
          have hvk : v = (k : Int) := by
            rw [← HV.out, List.getD_eq_getElem?_getD, ← hd, Nat.zero_add, hg]; rfl
          have HVK := hid hvk
          clear hvk hg hm hd
          go_wp2_with (go_at_call 37; refine HLK.out.mono ?_; rintro e w1 ⟨rfl, rfl⟩)
          go_ret
          exact ⟨by rw [HVK.out]; rfl, rfl⟩
        · have hde : ((d : Int) == 0) = false := beq_eq_false_iff_ne.2 (by omega)
          obtain ⟨d, rfl⟩ : ∃ d', d = d' + 1 := ⟨d - 1, by omega⟩
          have HO := hid (show d + (ot (k + 1)).length = p from by rw [ot_succ, if_pos hm, List.length_append]; simp; omega)
          have hdb : d ≤ 182 := by omega
          clear hd hm hd0
          go_wp2_with (go_at_call 37; refine HLK.out.mono ?_; rintro e w1 ⟨rfl, rfl⟩)
          go_roundw
          case rel => exact ⟨trivial, k + 1, d, by omega, by go_num, by go_num, HO.out⟩
          case measure => simp [intOf]; omega
      · rw [decide_eq_false hm] at h15
        have h15' : ¬ hl (k : Int) = 15 := of_decide_eq_false h15
        have HO := hid (show d + (ot (k + 1)).length = p from by rw [ot_succ, if_neg hm]; exact hd)
        clear hd hm h15
        generalize hl (k : Int) = l at *
        have hle : ((l : Int) == 15) = false := beq_eq_false_iff_ne.2 (by omega)
        clear h15'
        go_wp2_with (go_at_call 37; refine HLK.out.mono ?_; rintro e w1 ⟨rfl, rfl⟩)
        go_roundw
        case rel => exact ⟨trivial, k + 1, d, by omega, by go_num, rfl, HO.out⟩
        case measure => simp [intOf]; omega
    · obtain rfl : k = 256 := by omega
      exfalso
      rw [ot_all] at hd
      have : hq15.length = 182 := by decide
      omega
set_option maxHeartbeats 2000000 in
theorem nth_any (l p : Nat) (w : World) (hl : l < 15) (hp : p < (clS l).length) : Calls Try.prog 50 #[.int .i64 l, .int .i64 p] w fun e w' => e = .returned (.int .u8 ((clS l).getD p 0)) ∧ w = w' := by
  have HC := hid (class_any l)
  obtain ⟨y, hy1, hy2, hy3⟩ := at_nat (clS_bd l).1 hp
  have hix := fun W => str_get hy1 hy2 .i64 W
  rw [hy3]
  have hli : (l : Int) < 15 := by omega
  clear hy1 hy2 hy3 hp
  generalize strOfNums (clS l) = s at *
  go_enter Try.func50, Try.ntmps50
  go_wp2_with (go_at_call 47; refine (HC.out _).mono ?_; rintro e w1 ⟨rfl, rfl⟩)
  go_ret
  exact ⟨rfl, rfl⟩

theorem bn_get (x : Int) : ∀ (k r : Nat), r < k → (bn k x)[r]? = some (x / 2 ^ (k - 1 - r) % 2)
  | 0, r, h => by omega
  | k + 1, 0, _ => by rw [bn]; simp
  | k + 1, r + 1, h => by
    rw [bn, List.getElem?_cons_succ, bn_get x k r (by omega)]
    congr 4; omega
theorem ub_get (zs : List Int) (j r : Nat) (hr : r ≤ 7) (hj : j < zs.length) : (ub zs)[8 * j + r]? = some (zs.getD j 0 / 2 ^ (7 - r) % 2) := by
  have h : ((ub zs).drop (8 * j))[r]? = some (zs.getD j 0 / 2 ^ (7 - r) % 2) := by
    rw [ub_drop, List.drop_eq_getElem_cons hj, ub_cons, List.getElem?_append_left (by rw [bn_length]; omega), bn_get _ 8 r (by omega), List.getD_eq_getElem?_getD, List.getElem?_eq_getElem hj]
    rfl
  rw [List.getElem?_drop] at h
  exact h
set_option maxHeartbeats 2000000 in
theorem bit_any (a : Option Addr) (n c i : Nat) (zs : List Int) (w : World) (hlen : zs.length = n) (hn : n ≤ 16384) (hi : i < 8 * n) (hz : ∀ y ∈ zs, 0 ≤ y ∧ y < 256) (hseg : Seg w a zs) :
    Calls Try.prog 45 #[.slice a n c, .int .i64 i] w fun e w' => e = .returned (.int .i64 ((ub zs).getD i 0)) ∧ w = w' := by
  obtain ⟨j, r, rfl, hr⟩ : ∃ j r : Nat, i = 8 * j + r ∧ r ≤ 7 := ⟨i / 8, i % 8, by omega, by omega⟩
  have hg := ub_get zs j r hr (by omega)
  have hv : (ub zs).getD (8 * j + r) 0 = zs.getD j 0 / 2 ^ (7 - r) % 2 := by rw [List.getD_eq_getElem?_getD, hg]; rfl
  have hjn : j < n := by omega
  obtain ⟨y, hy, hgy, _⟩ := byte_nat hz (k := j) (by omega)
  obtain ⟨p, off, rfl, hc⟩ := hseg (by intro e; rw [e] at hlen; simp at hlen; omega)
  have hc1 := hc j (by omega)
  rw [hgy] at hc1 hv
  rw [hv]
  obtain ⟨f, hf⟩ : ∃ f : Nat, 7 - r = f := ⟨_, rfl⟩
  rw [hf]
  have hfi : (7 : Int) - (r : Int) = (f : Int) := by omega
  have hfu : IntKind.u64.wrap (f : Int) = (f : Int) := by rw [IntKind.wrap_u64]; omega
  generalize hpp : 8 * j + r = q at *
  have hqj : (q : Int) / 8 = (j : Int) := by omega
  have hqr : (q : Int) % 8 = (r : Int) := by omega
  have hji : (j : Int) < (n : Int) := by omega
  have hdv : (y : Int) / 2 ^ f = ((y / 2 ^ f : Nat) : Int) := by rw [← pow_cast]; exact (Int.natCast_ediv _ _).symm
  clear hpp hg hv hc hgy hlen hz hf
  generalize hyy : y / 2 ^ f = d at *
  rw [hdv]
  clear hyy
  go_enter Try.func45, Try.ntmps45
  go_wp2
  go_ret
  exact ⟨rfl, rfl⟩
end Go.Proofs.Ytchkiohmjgmmbaa
