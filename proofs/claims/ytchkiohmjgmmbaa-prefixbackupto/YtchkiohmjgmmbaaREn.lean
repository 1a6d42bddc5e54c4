/-
  What the document's own Encode answers. A contract that the statement's walk uses.
-/
import Derived.Test.YtchkiohmjgmmbaaRCo
import Derived.Test.YtchkiohmjgmmbaaEnc
namespace Go.Proofs.Ytchkiohmjgmmbaa
open Go.RowKit
set_option linter.unusedVariables false
set_option maxRecDepth 100000

/-- The whole bytes, and the bits behind them. -/
structure EnL (B bs out : List Int) : Prop where
  e : ub out ++ bs = B
  b : Bits bs
  z : ∀ y ∈ out, 0 ≤ y ∧ y < 256
theorem EnL.len {B bs out : List Int} (k : EnL B bs out) : 8 * out.length + bs.length = B.length := by rw [← k.e, List.length_append, ub_len]
theorem EnL.code {B bs out cs : List Int} (k : EnL B bs out) (hc : Bits cs) : EnL (B ++ cs) (bs ++ cs) out := ⟨by rw [← k.e, List.append_assoc], k.b.app hc, k.z⟩
theorem bn8_v2 {l : List Int} (h : Bits l) (hl : l.length = 8) : bn 8 (v2 0 l) = l := by
  have := bn_v2 l h
  rw [hl] at this
  exact this
theorem v2_byte {l : List Int} (h : Bits l) (hl : l.length = 8) : 0 ≤ v2 0 l ∧ v2 0 l < 256 := by
  have := v2_bound l h
  rw [hl] at this
  exact this
theorem EnL.out {B bs out : List Int} (k : EnL B bs out) (h8 : 8 ≤ bs.length) : EnL B (bs.drop 8) (out ++ [v2 0 (bs.take 8)]) := by
  have hb := k.b.take 8
  have hl : (bs.take 8).length = 8 := by rw [List.length_take]; omega
  refine ⟨?_, k.b.drop 8, fun y hy => ?_⟩
  · rw [ub_snoc, bn8_v2 hb hl, List.append_assoc, List.take_append_drop]; exact k.e
  · rcases List.mem_append.1 hy with hy | hy
    · exact k.z y hy
    · rw [List.mem_singleton.1 hy]; exact v2_byte hb hl
theorem EnL.whole {B out : List Int} (k : EnL B [] out) : pk B = out := by
  refine pk_ub (r := 0) ?_ (by omega) k.z
  rw [← k.e]
  simp
theorem EnL.fill {B bs out : List Int} (k : EnL B bs out) (h0 : 0 < bs.length) (h8 : bs.length ≤ 8) : pk B = out ++ [v2 0 (bs ++ List.replicate (8 - bs.length) 1)] := by
  have hb : Bits (bs ++ List.replicate (8 - bs.length) 1) := k.b.app (ones_bits _)
  have hl : (bs ++ List.replicate (8 - bs.length) 1).length = 8 := by rw [List.length_append, List.length_replicate]; omega
  refine pk_ub (r := 8 - bs.length) ?_ (by omega) (fun y hy => ?_)
  · rw [ub_snoc, bn8_v2 hb hl, ← k.e, List.append_assoc]
  · rcases List.mem_append.1 hy with hy | hy
    · exact k.z y hy
    · rw [List.mem_singleton.1 hy]; exact v2_byte hb hl
theorem empty_row (w : World) : Row (w.alloc (.cells #[] 5)) ⟨some ⟨w.heap.size, 0, none⟩, 0, 0⟩ [] :=
  ⟨by simp, .inr ⟨w.heap.size, 0, #[], rfl, heap_alloc_new w _, Nat.le_refl _, Nat.zero_le _, by simp, fun j hj => by simp at hj⟩⟩
theorem str_nil : (⟨#[]⟩ : ByteArray) = strOfNums (bt []) := by kernel_rfl
theorem add_run (a b : List Int) (h : a.length + b.length ≤ 1000) (W : World) : (Op.stringOp .add (strOfNums (bt a)) (strOfNums (bt b))).run Try.prog W = .ok (.string (strOfNums (bt (a ++ b)))) W := by
  rw [run_string_add_sum W _ _ (by rw [str_len, str_len, bt_len, bt_len]; omega), str_cat, bt_app]
theorem take_run (a : List Int) (h : 8 ≤ a.length) (W : World) : (Instr.slice 9 (.string (strOfNums (bt a))) none (some (.int .i64 8)) none).run Try.prog W = .ok (.string (strOfNums (bt (a.take 8)))) W := by
  have hs : (strOfNums (bt a)).size = a.length := by rw [str_len, bt_len]
  rw [run_slice_string_h W 9 _ (by kernel_rfl) .i64 8 (by omega) (by rw [hs]; omega), ← bt_take, ← str_take]
  rfl
theorem drop_run (a : List Int) (h : 8 ≤ a.length) (W : World) : (Instr.slice 9 (.string (strOfNums (bt a))) (some (.int .i64 8)) none none).run Try.prog W = .ok (.string (strOfNums (bt (a.drop 8)))) W := by
  have hs : (strOfNums (bt a)).size = a.length := by rw [str_len, bt_len]
  rw [run_slice_string_l W 9 _ (by kernel_rfl) .i64 8 (by omega) (by rw [hs]; omega), ← bt_drop, ← str_drop]
  rfl
set_option maxHeartbeats 16000000 in
theorem rencode_any (a : Option Addr) (n c : Nat) (zs : List Int) (w : World) (hlen : zs.length = n) (hn : n ≤ 1048576) (hz : ∀ y ∈ zs, 0 ≤ y ∧ y < 256) (hseg : Seg w a zs) :
    Calls Try.prog 31 #[.slice a n c] w fun e w' => ∃ x : Sv, e = .returned (.slice x.a x.n x.c) ∧ Q w w' ∧ Row w' x (hE zs) ∧ New w.heap.size x := by
  have HL := hid hlen
  have HZ := hid hz
  have HS := hid hseg
  clear hlen hz hseg
  go_enter Try.func31, Try.ntmps31
  go_wp2_with fail
  generalize hW : World.alloc w _ = W0
  have HQ0 := hid (show Q w W0 from by rw [← hW]; exact (Q.refl w).alloc _)
  have HR0 := hid (show Row W0 ⟨some ⟨w.heap.size, 0, none⟩, 0, 0⟩ [] from by rw [← hW]; exact empty_row w)
  clear hW
  go_loopw [3, 4, 5] (fun tx sv iv wr => Q w wr ∧ ∃ (k : Nat) (out bs : List Int) (x : Sv), k ≤ n ∧ iv = .int .i64 k ∧ tx = .slice x.a x.n x.c ∧ sv = .string (strOfNums (bt bs)) ∧ bs.length < 8 ∧ EnL (hB (zs.take k)) bs out ∧ Row wr x out ∧ New w.heap.size x) (fun _ _ i _ => ((n : Int) - intOf i).toNat)
  case atStart => exact ⟨HQ0.out, 0, [], [], ⟨some ⟨w.heap.size, 0, none⟩, 0, 0⟩, Nat.zero_le _, rfl, rfl, by rw [← str_nil], by decide, ⟨rfl, bits_nil, (fun y hy => by cases hy)⟩, HR0.out, fun b e => by cases e; exact Nat.le_refl _⟩
  case round =>
    clear HQ0 HR0
    obtain ⟨hq, k, out, bs, ⟨xa, xn, xc⟩, hk, rfl, rfl, rfl, hb8, hE1, hr, hnew⟩ := hrel
    have HQ := hid hq
    have HE := hid hE1
    have HR := hid hr
    have HN := hid hnew
    clear hq hE1 hr hnew
    by_cases hkn : k < n
    · have hki : (k : Int) < (n : Int) := by omega
      obtain ⟨y, hy, hg, hy2⟩ := byte_nat HZ.out (k := k) (by rw [HL.out]; exact hkn)
      obtain ⟨p, off, rfl, hc0⟩ := HS.out (by intro e; have := HL.out; rw [e] at this; simp at this; omega)
      have hc1 := hc0 k (by rw [HL.out]; exact hkn)
      rw [hg, ← HQ.out.cell (lt_of_cell hc1)] at hc1
      have HCO := hid (code_any y wr hy)
      have hly := hl_bd (y : Int)
      have hcl := bn_length (hl (y : Int)) (hc (y : Int))
      have E1 := hid (HE.out.code (bn_bits (hl (y : Int)) (hc (y : Int))))
      rw [← hB_take hy2] at E1
      have HBN := hid (show (hB (zs.take (k + 1))).length ≤ 15728640 from by rw [hB_len]; have := hN_take_le zs (k + 1); omega)
      clear hc0 hy2 hg HE
      generalize hcs : bn (hl (y : Int)) (hc (y : Int)) = cs at *
      have hadd := add_run bs cs (by rw [hcl]; omega)
      have hbl : (bs ++ cs).length ≤ 23 := by rw [List.length_append, hcl]; omega
      clear hcs
      generalize strOfNums (bt bs) = s0 at *
      generalize strOfNums (bt cs) = s1 at *
      generalize bs ++ cs = bs1 at *
      clear hcl hly hb8
      go_wp2_with (go_at_call 38; refine HCO.out.mono ?_; rintro e w1 ⟨rfl, q1⟩; have Q1 := hid (HQ.out.trans q1); have R1 := hid (show Row w1 ⟨xa, xn, xc⟩ out from Sub.q HR.out q1); clear q1)
      clear hc1 hadd HQ HR HCO
      go_loopw [3, 4] (fun tx sv wr => Q w wr ∧ ∃ (out bs : List Int) (x : Sv), tx = .slice x.a x.n x.c ∧ sv = .string (strOfNums (bt bs)) ∧ bs.length ≤ 23 ∧ EnL (hB (zs.take (k + 1))) bs out ∧ Row wr x out ∧ New w.heap.size x) (fun _ s _ => match s with | .string b => b.size | _ => 0)
      case atStart => exact ⟨Q1.out, out, bs1, ⟨xa, xn, xc⟩, rfl, rfl, hbl, E1.out, R1.out, HN.out⟩
      case round =>
        clear Q1 R1 E1 HN hbl
        obtain ⟨hq, out, bs, ⟨xa, xn, xc⟩, rfl, rfl, hb, hE1, hr, hnew⟩ := hrel
        have HQ := hid hq
        have HE := hid hE1
        have HR := hid hr
        have HN := hid hnew
        clear hq hE1 hr hnew
        have hsz : (strOfNums (bt bs)).size = bs.length := by rw [str_len, bt_len]
        by_cases h8 : 8 ≤ bs.length
        · have h8i : ¬ ((bs.length : Nat) : Int) < 8 := by omega
          have htk := take_run bs h8
          have hdr := drop_run bs h8
          have HVA := hid (fun W => value_any (bs.take 8) W (HE.out.b.take 8) (by rw [List.length_take]; omega))
          have EL := HE.out.len
          have HXN := hid (show xn ≤ 1099511627776 from by have hrl : out.length = xn := Row.len HR.out; have := HBN.out; omega)
          obtain ⟨⟨ya, yn, yc⟩, w5, hrun, hrow, hkp, hbb⟩ := row_one (v2 0 (bs.take 8)) HR.out HXN.out
          have X5 := hid (new_step' rfl HQ.out HN.out hkp hbb)
          have R5 := hid hrow
          have E5 := hid (HE.out.out h8)
          have hds : (strOfNums (bt (bs.drop 8))).size = bs.length - 8 := by rw [str_len, bt_len, List.length_drop]
          have HDS := hid hds
          have HB3 := hid (show (bs.drop 8).length ≤ 23 from by rw [List.length_drop]; omega)
          have HSZ := hid hsz
          clear EL hkp hbb hrow HE HR hds
          generalize v2 0 (bs.take 8) = v at *
          generalize bs.drop 8 = bs2 at *
          generalize strOfNums (bt (bs.take 8)) = s8 at *
          generalize hl0 : bs.length = bl at *
          have HBL := hid hl0
          clear hl0
          go_wp2_with (first
            | (go_at_call 39; refine (HVA.out _).mono ?_; rintro e w1 ⟨rfl, rfl⟩)
            | (at_builtin; refine Lib.wpList_append_run _ rfl _ _ _ _ rfl _ _ rfl rfl _ _ hrun ?_))
          go_roundw
          case rel => exact ⟨X5.out.1, _, bs2, ⟨ya, yn, yc⟩, rfl, rfl, HB3.out, E5.out, R5.out, X5.out.2⟩
          case measure => have h1 := HDS.out; have h2 := HSZ.out; simp; omega
        · have h8i : ((bs.length : Nat) : Int) < 8 := by omega
          go_wp2_with fail
          go_roundw
          case rel => exact ⟨HQ.out, k + 1, out, bs, ⟨xa, xn, xc⟩, by omega, by go_num, rfl, rfl, by omega, HE.out, HR.out, HN.out⟩
          case measure => simp [intOf]; omega
    · obtain rfl : k = n := by omega
      have e : zs.take k = zs := List.take_of_length_le (by rw [HL.out]; exact Nat.le_refl _)
      rw [e] at HE
      clear e
      have hsz : (strOfNums (bt bs)).size = bs.length := by rw [str_len, bt_len]
      by_cases h0 : bs = []
      · subst h0
        have HP := hid (show hE zs = out from HE.out.whole)
        have hsz0 : (strOfNums (bt [])).size = 0 := hsz
        clear hsz
        go_wp2_with fail
        go_ret
        exact ⟨⟨xa, xn, xc⟩, rfl, HQ.out, by rw [HP.out]; exact HR.out, HN.out⟩
      · have hpos : 0 < bs.length := List.length_pos_iff.2 h0
        have HP := hid (show hE zs = _ from HE.out.fill hpos (by omega))
        have HFB := hid (HE.out.b.app (ones_bits (8 - bs.length)))
        have EL := HE.out.len
        have HXN := hid (show xn ≤ 1099511627776 from by have hrl : out.length = xn := Row.len HR.out; rw [hB_len] at EL; have := (hN_bd zs).2; have := HL.out; omega)
        have hne : (((bs.length : Nat) : Int) == 0) = false := beq_eq_false_iff_ne.2 (by omega)
        have H0 := hid h0
        clear h0 EL HE
        obtain ⟨bl, hbl⟩ : ∃ bl, bs.length = bl := ⟨_, rfl⟩
        have HBL := hid hbl
        rw [hbl] at hsz hne hpos hb8 HP HFB
        clear hbl
        generalize hss : strOfNums (bt bs) = s0 at *
        have HSS := hid hss
        clear hss
        go_wp2_with fail
        generalize hws : wr = ws at *
        clear hws
        go_loopw [4] (fun sv W => W = ws ∧ ∃ j : Nat, bl + j ≤ 8 ∧ sv = .string (strOfNums (bt (bs ++ List.replicate j 1)))) (fun s _ => match s with | .string b => 8 - b.size | _ => 0)
        case atStart => exact ⟨rfl, 0, by omega, by rw [← HSS.out]; simp⟩
        case round =>
          obtain ⟨hw, j, hj, rfl⟩ := hrel
          replace hw := hw.symm
          subst hw
          have hzj : (strOfNums (bt (bs ++ List.replicate j 1))).size = bl + j := by rw [str_len, bt_len, List.length_append, List.length_replicate, HBL.out]
          by_cases hj8 : bl + j < 8
          · have hji : (bl : Int) + (j : Int) < 8 := by omega
            have hadd : ∀ W, (Op.stringOp .add (strOfNums (bt (bs ++ List.replicate j 1))) ⟨#[49]⟩).run Try.prog W = .ok (.string (strOfNums (bt (bs ++ List.replicate (j + 1) 1)))) W := fun W => by
              have h := add_run (bs ++ List.replicate j 1) [1] (by rw [List.length_append, List.length_replicate, HBL.out]; show bl + j + 1 ≤ 1000; omega) W
              rw [show strOfNums (bt [1]) = (⟨#[49]⟩ : ByteArray) from by kernel_rfl, List.append_assoc, ← List.replicate_succ'] at h
              exact h
            have hz2 : (strOfNums (bt (bs ++ List.replicate (j + 1) 1))).size = bl + (j + 1) := by rw [str_len, bt_len, List.length_append, List.length_replicate, HBL.out]
            have HZJ := hid hzj
            have HZ2 := hid hz2
            clear hz2
            have h49 : (⟨#[49]⟩ : ByteArray).size = 1 := rfl
            generalize strOfNums (bt (bs ++ List.replicate j 1)) = s1 at *
            go_wp2
            go_roundw
            case rel => exact ⟨trivial, j + 1, by omega, rfl⟩
            case measure => have h1 := HZJ.out; have h2 := HZ2.out; simp; omega
          · have hje : j = 8 - bl := by omega
            subst hje
            have HVA := hid (fun W => value_any (bs ++ List.replicate (8 - bl) 1) W HFB.out (by rw [List.length_append, List.length_replicate, HBL.out]; omega))
            have hz8 : (strOfNums (bt (bs ++ List.replicate (8 - bl) 1))).size = 8 := by rw [hzj]; omega
            obtain ⟨⟨ya, yn, yc⟩, w5, hrun, hrow, hkp, hbb⟩ := row_one (v2 0 (bs ++ List.replicate (8 - bl) 1)) HR.out HXN.out
            have X5 := hid (new_step' rfl HQ.out HN.out hkp hbb)
            have R5 := hid hrow
            clear hkp hbb hrow hzj hj8 hj
            generalize v2 0 (bs ++ List.replicate (8 - bl) 1) = v at *
            generalize strOfNums (bt (bs ++ List.replicate (8 - bl) 1)) = s1 at *
            go_wp2_with (first
              | (go_at_call 39; refine (HVA.out _).mono ?_; rintro e w1 ⟨rfl, rfl⟩)
              | (at_builtin; refine Lib.wpList_append_run _ rfl _ _ _ _ rfl _ _ rfl rfl _ _ hrun ?_))
            go_ret
            exact ⟨⟨ya, yn, yc⟩, rfl, X5.out.1, by rw [HP.out]; exact R5.out, X5.out.2⟩
end Go.Proofs.Ytchkiohmjgmmbaa
