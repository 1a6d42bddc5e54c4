/-
  What huff's Encode answers: the coded text, in new memory. A contract that the statements' walks use.
-/
import Derived.Test.YtehejibllkmflaaEnR
import Derived.BigQuiet
import Derived.Deep.QuietTactic
import Derived.OwnWalk
namespace Go.Proofs.Ytehejibllkmflaa
open Go.RowKit
set_option linter.unusedVariables false
set_option maxRecDepth 100000

/-- The table's cells hold. -/
def Tbl (C : Array Value) : Prop := ∀ (W : World) (b : Nat), Blk W b 143 C → ∀ y : Nat, y < 256 → W.cell? ⟨b, y * 2, none⟩ = some (.int .i64 (hc (y : Int))) ∧ W.cell? ⟨b, y * 2 + 1, none⟩ = some (.int .i64 (hl (y : Int) : Nat))
theorem tbl_cdA : Tbl cdA.toArray := fun W b h y hy => cdA_box h hy
structure EnI (w : World) (b g : Nat) (C : Array Value) (mz : Nat) (out : List Int) (m : Nat) (wr : World) : Prop where
  q : Q w wr
  bb : Blk wr b 143 C
  gg : w.heap.size ≤ g
  ne : b ≠ g
  o : Row wr ⟨some ⟨g, 0, none⟩, m, mz⟩ out
theorem EnI.len {w : World} {b g : Nat} {C : Array Value} {mz : Nat} {out : List Int} {m : Nat} {wr : World} (h : EnI w b g C mz out m wr) : out.length = m := Row.len h.o
theorem EnI.drew {w : World} {b g : Nat} {C : Array Value} {mz : Nat} {out : List Int} {m : Nat} {wr : World} (h : EnI w b g C mz out m wr) (n : Nat) : EnI w b g C mz out m (wr.drewN n) :=
  ⟨h.q.drewN n, h.bb.q ((Q.refl wr).drewN n), h.gg, h.ne, Sub.q h.o ((Q.refl wr).drewN n)⟩
/-- A byte more. -/
theorem EnI.push {w : World} {b g : Nat} {C : Array Value} {mz : Nat} {out : List Int} {m : Nat} {wr : World} (h : EnI w b g C mz out m wr) (v : Int) (hm : m + 1 ≤ mz) :
    ∃ w', (Builtin.append_ #[30, 30] 30 #[.slice (some ⟨g, 0, none⟩) m mz, .slice (some ⟨wr.heap.size, 0, none⟩) 1 1]).run Try.prog (wr.alloc (.cells #[.int .u8 v] 5)) = .ok (.slice (some ⟨g, 0, none⟩) (m + 1) mz) w' ∧ EnI w b g C mz (out ++ [v]) (m + 1) w' := by
  obtain ⟨w', hr, hrow, hk⟩ := row_in v h.o hm
  refine ⟨w', hr, ?_, ?_, h.gg, h.ne, hrow⟩
  · exact hk.below h.q h.q.size (fun i hi => by simp [blk] at hi; have := h.gg; omega)
  · exact (hk.block b h.bb.lt (fun hi => by simp [blk] at hi; exact h.ne hi.symm)).trans h.bb
theorem wr64 (n : Nat) (h : n < 9223372036854775808) : IntKind.i64.wrap (n : Int) = n := by rw [wrap_i64]; omega
theorem hl_pow (x : Int) : 2 ^ hl x ≤ 32768 := by rcases hl_cases x with h | h | h | h | h <;> rw [h] <;> decide

set_option maxHeartbeats 16000000 in
theorem encode_any (a : Option Addr) (n c : Nat) (zs : List Int) (w : World) (hlen : zs.length = n) (hn : n ≤ 140737488355328) (hz : ∀ y ∈ zs, 0 ≤ y ∧ y < 256) (hseg : Seg w a zs) :
    Calls Try.prog 93 #[.slice a n c] w fun e w' => ∃ g m cc, e = .returned (.slice (some ⟨g, 0, none⟩) m cc) ∧ Q w w' ∧ Row w' ⟨some ⟨g, 0, none⟩, m, cc⟩ (hE zs) ∧ w.heap.size ≤ g := by
  have HCD := hid codes_any
  have HSB := hid (fun (W : World) (h : Q w W) => sizeBy_any a n c zs W hlen hn hz (hseg.q h))
  have HT := hid tbl_cdA
  have HI := hid (show (Try.prog.info? 143).map (·.size) = some cdA.toArray.size from by rw [show cdA.toArray.size = 512 from cdT_size _]; kernel_rfl)
  have HO := hid (show cdA.toArray.all (·.oneCell') = true from cdT_one _)
  have HSZ := hid (show (cdT []).toArray.size = cdA.toArray.size from (cdT_size _).trans (cdT_size _).symm)
  have HONE := hid ones_any
  have hbN := hN_bd zs
  obtain ⟨i0, hi, hz0, hz1, hz2⟩ := info_parts info5
  obtain ⟨hzv, _⟩ := zero_of_info info36
  have HL := hid hlen
  have HZ := hid hz
  have HS := hid hseg
  clear hlen hz hseg
  have hmz : hM (hN zs) ≤ 281474976710656 := by unfold hM; have := HL.out; omega
  have HMZ := hid (show 8 * hM (hN zs) ≤ hN zs + 7 ∧ hN zs ≤ 8 * hM (hN zs) from by unfold hM; omega)
  clear hbN
  generalize hM (hN zs) = mz at *
  generalize cdA.toArray = C at *
  generalize (cdT []).toArray = Z at *
  go_enter Try.func93, Try.ntmps93
  go_wp2_with (first
    | (go_at_call 99; refine (HCD.out _).mono ?_; rintro e w1 ⟨rfl, q1⟩; have Q1 := hid q1; clear q1)
    | (refine wpList_store_row rfl 143 _ _ rfl w1.heap.size _ rfl rfl 143 Z (heap_alloc_new w1 _) HI.out HSZ.out HO.out ?_; rw [World.setRow_alloc_new]; have Q2 := hid (show Q w (w1.alloc (.cells C 143)) from Q1.out.alloc _); have B2 := hid (blk_new w1 C 143); have N2 := hid (show w.heap.size ≤ w1.heap.size from Q1.out.size); clear Q1; generalize w1.heap.size = b at *; generalize World.alloc w1 _ = w2 at *)
    | (refine wpList_load_row rfl 143 _ rfl b rfl 143 _ (0, 0) _ B2.out Try.underlying143 rfl HI.out ?_)
    | (go_at_call 98; refine (HSB.out _ Q2.out).mono ?_; rintro e w3 ⟨rfl, q3⟩; have Q3 := hid (Q2.out.trans q3); have B3 := hid (B2.out.q q3); clear q3 Q2 B2)
    | (at_make; refine wpList_make_own _ rfl _ _ 30 rfl w.heap.size 5 i0 (.int .u8 0) 1 Try.underlying30 hi hz0 hz1 .i64 .i64 _ mz rfl rfl rfl (by rw [hz2]; omega) (by unfold maxLen; omega) Q3.out.size ?_; intro w4 hown hgr; have Q4 := hid (Q3.out.grown hgr); have B4 := hid (B3.out.q ((Q.refl w3).grown hgr)); have O4 := hid (Own.row (a := some ⟨w3.heap.size, 0, none⟩) (cap := mz) (zs := []) hown (by intro h; cases h)); have N4 := hid (show b < w3.heap.size from B3.out.lt); have N5 := hid Q3.out.size; clear hown hgr Q3 B3))
  generalize w3.heap.size = g at *
  have HE0 := hid (show EnI w b g C mz [] 0 w4 from ⟨Q4.out, B4.out, N5.out, by have := N4.out; omega, O4.out⟩)
  clear Q4 B4 O4 N4 N5 N2 w1 w2 w3 hi hz0 hz1 hz2 hzv HCD HSB HI HO HSZ
  go_loopw [4, 5, 6, 17] (fun tx re he i wr => ∃ (k : Nat) (out : List Int) (m h r : Nat), k ≤ n ∧ i = .int .i64 k ∧ tx = .slice (some ⟨g, 0, none⟩) m mz ∧ re = .int .i64 r ∧ he = .int .i64 h ∧ h < 8 ∧ EnS (hB (zs.take k)) out h r ∧ EnI w b g C mz out m wr) (fun _ _ _ i _ => ((n : Int) - intOf i).toNat)
  case atStart => exact ⟨0, [], 0, 0, 0, Nat.zero_le _, rfl, rfl, rfl, rfl, by omega, ⟨rfl, (fun y hy => by cases hy), by decide⟩, HE0.out⟩
  case round =>
    clear HE0
    obtain ⟨k, out, m, h, r, hk, rfl, rfl, rfl, rfl, hh8, hS, hI⟩ := hrel
    have ES := hid hS
    have EI := hid hI
    clear hS hI
    by_cases hkn : k < n
    · have hki : (k : Int) < (n : Int) := by omega
      obtain ⟨y, hy, hg, hy2⟩ := byte_nat HZ.out (k := k) (by rw [HL.out]; exact hkn)
      obtain ⟨p, off, rfl, hc0⟩ := HS.out (by intro e; have := HL.out; rw [e] at this; simp at this; omega)
      have hc1 := hc0 k (by rw [HL.out]; exact hkn)
      rw [hg, ← EI.out.q.cell (lt_of_cell hc1)] at hc1
      obtain ⟨hcy1, hcy2⟩ := HT.out wr b EI.out.bb y hy
      have hbd := hc_bd hy
      have hly := hl_bd (y : Int)
      have hlp := hl_pow (y : Int)
      have hyi : (y : Int) < 256 := by omega
      have HB := hid (hB_take hy2)
      have HNB := hid (show hN (zs.take (k + 1)) ≤ hN zs from by
        have e := List.take_append_drop (k + 1) zs
        have e2 := hN_app (zs.take (k + 1)) (zs.drop (k + 1))
        rw [e] at e2
        omega)
      clear hc0 hy2 hg
      generalize hl (y : Int) = l at *
      generalize hc (y : Int) = cz at *
      obtain ⟨cn, rfl⟩ := Int.eq_ofNat_of_zero_le hbd.1
      have hcl : cn < 2 ^ l := by have := hbd.2; rw [← pow_cast] at this; omega
      have E1 := hid (ES.out.code hcl)
      rw [← HB.out] at E1
      have hrl := ES.out.r
      have h256 : (2 : Nat) ^ h ≤ 128 := by have := Nat.pow_le_pow_right (n := 2) (by decide) (show h ≤ 7 by omega); exact this
      have hqb : r * 2 ^ l ≤ 128 * 32768 := Nat.mul_le_mul (by omega) hlp
      have hq1 : (r : Int) * 2 ^ l = ((r * 2 ^ l : Nat) : Int) := by rw [Int.natCast_mul, pow_cast]
      have hor : bits .or .i64 ((r * 2 ^ l : Nat) : Int) (cn : Int) = ((r * 2 ^ l + cn : Nat) : Int) := by
        rw [i64_or_nat _ _ (by omega) (by omega), nat_join l _ _ (by rw [Nat.mul_mod_left]) hcl]
      have htb : r * 2 ^ l + cn ≤ 8388608 := by omega
      have HP := hid h256
      clear hbd hcl h256 ES hrl hlp
      generalize hqq : r * 2 ^ l = q at *
      clear hqq
      generalize hqq : q + cn = t at *
      clear hqq
      have hqi : (q : Int) ≤ 4194304 := by omega
      go_wp2_with fail
      go_quiet (fail)
      clear hcy1 hc1 hor hq1
      go_wp2_with fail
      generalize hwq : wr.drewN nq = wq at *
      have EJ := hid (show EnI w b g C mz out m wq from by rw [← hwq]; exact EI.out.drew nq)
      clear hwq EI
      go_loopw [4, 6] (fun tx he wr => ∃ (out : List Int) (m h : Nat), tx = .slice (some ⟨g, 0, none⟩) m mz ∧ he = .int .i64 h ∧ h ≤ 30 ∧ EnT (hB (zs.take (k + 1))) out h t ∧ EnI w b g C mz out m wr) (fun _ h _ => (intOf h).toNat)
      case atStart => exact ⟨out, m, h + l, rfl, by go_num, by omega, E1.out.t, EJ.out⟩
      case round =>
        clear EJ E1
        obtain ⟨out, m, h, rfl, rfl, hh, hT, hI⟩ := hrel
        have ET := hid hT
        have EI := hid hI
        clear hT hI
        by_cases h8 : 8 ≤ h
        · obtain ⟨h, rfl⟩ : ∃ h', h = h' + 8 := ⟨h - 8, by omega⟩
          have EL := ET.out.len
          rw [hB_len] at EL
          have hml := EI.out.len
          obtain ⟨w5, hrun, hI5⟩ := EI.out.push ((t / 2 ^ h % 256 : Nat) : Int) (by have := HNB.out; have := HMZ.out; omega)
          have E5 := hid hI5
          have T5 := hid ET.out.out
          have hdv : (t : Int) / 2 ^ h = ((t / 2 ^ h : Nat) : Int) := by rw [← pow_cast]; exact (Int.natCast_ediv _ _).symm
          have hu8 : IntKind.u8.wrap ((t / 2 ^ h : Nat) : Int) = ((t / 2 ^ h % 256 : Nat) : Int) := by rw [IntKind.wrap_u8]; omega
          have hle : ¬ ((h + 8 : Nat) : Int) < 8 := by omega
          clear hI5 EL hml ET EI
          generalize hd : t / 2 ^ h = d at *
          clear hd
          generalize hd : ((d % 256 : Nat) : Int) = e8 at *
          clear hd
          go_wp2_with (at_builtin; refine Lib.wpList_append_run _ rfl _ _ _ _ rfl _ _ rfl rfl _ _ hrun ?_)
          go_roundw
          case rel => exact ⟨_, m + 1, h, rfl, by go_num, by omega, T5.out, E5.out⟩
          case measure => simp [intOf]; omega
        · have hOn := hid (HONE.out h)
          have hand : bits .and .i64 (t : Int) ((2 : Int) ^ h - 1) = ((t % 2 ^ h : Nat) : Int) := by
            have hp := Nat.two_pow_pos h
            have hp2 : (2 : Nat) ^ h ≤ 128 := by have := Nat.pow_le_pow_right (n := 2) (by decide) (show h ≤ 7 by omega); exact this
            rw [show ((2 : Int) ^ h - 1) = ((2 ^ h - 1 : Nat) : Int) by rw [← pow_cast]; omega, i64_and_nat _ _ (by omega) (by omega), Nat.and_two_pow_sub_one_eq_mod]
          have T5 := hid ET.out.cut
          clear ET
          generalize t % 2 ^ h = r2 at *
          generalize (2 : Int) ^ h - 1 = on at *
          go_wp2_with (go_at_call 96; refine (hOn.out _ (by omega)).mono ?_; rintro e w6 ⟨rfl, rfl⟩)
          go_roundw
          case rel => exact ⟨k + 1, out, m, h, r2, by omega, by go_num, rfl, rfl, rfl, by omega, T5.out, EI.out⟩
          case measure => simp [intOf]; omega
    · obtain rfl : k = n := by omega
      have e : zs.take k = zs := List.take_of_length_le (by rw [HL.out]; exact Nat.le_refl _)
      rw [e] at ES
      clear e
      by_cases h0 : h = 0
      · subst h0
        have HE := hid (show hE zs = out from ES.out.whole)
        go_wp2_with fail
        go_ret
        exact ⟨g, m, mz, rfl, EI.out.q, by rw [HE.out]; exact EI.out.o, EI.out.gg⟩
      · have HE := hid (show hE zs = _ from ES.out.fill (by omega) hh8)
        have hlt : ((h : Nat) : Int) > 0 := by omega
        obtain ⟨f, hf⟩ : ∃ f : Nat, 8 - h = f := ⟨8 - h, rfl⟩
        rw [hf] at HE
        have hfi : (8 : Int) - (h : Int) = (f : Int) := by omega
        have hrb := ES.out.r
        have h128 : (2 : Nat) ^ h * 2 ^ f = 256 := by rw [← Nat.pow_add, show h + f = 8 by omega]
        have hp := Nat.two_pow_pos f
        have hrf : r * 2 ^ f + 2 ^ f ≤ 256 := by
          have h1 : (r + 1) * 2 ^ f ≤ 2 ^ h * 2 ^ f := Nat.mul_le_mul_right _ hrb
          rw [Nat.add_mul, Nat.one_mul] at h1
          omega
        have H1 := hid (show IntKind.i64.wrap ((r : Int) * 2 ^ f) = ((r * 2 ^ f : Nat) : Int) from by rw [← pow_cast, ← Int.natCast_mul]; exact wr64 _ (by omega))
        have H2 := hid (show bits .or .i64 ((r * 2 ^ f : Nat) : Int) (2 ^ f - 1) = ((r * 2 ^ f + (2 ^ f - 1) : Nat) : Int) from by
          rw [show ((2 : Int) ^ f - 1) = ((2 ^ f - 1 : Nat) : Int) by rw [← pow_cast]; omega, i64_or_nat _ _ (by omega) (by omega), nat_join f _ _ (by rw [Nat.mul_mod_left]) (by omega)])
        have H3 := hid (show IntKind.u8.wrap ((r * 2 ^ f + (2 ^ f - 1) : Nat) : Int) = ((r * 2 ^ f + (2 ^ f - 1) : Nat) : Int) from by rw [IntKind.wrap_u8]; omega)
        have EL := ES.out.len
        rw [hB_len] at EL
        have hml := EI.out.len
        have HD := hid (show EnI w b g C mz out m wr.drew from ⟨EI.out.q.drew, EI.out.bb.drew, EI.out.gg, EI.out.ne, Sub.q EI.out.o (Q.refl wr).drew⟩)
        obtain ⟨w5, hrun, hI5⟩ := HD.out.push ((r * 2 ^ f + (2 ^ f - 1) : Nat) : Int) (by have := HMZ.out; omega)
        have E5 := hid hI5
        have HR := hid hrun
        have HF := hid (show f ≤ 62 by omega)
        clear hrun hI5 EL hml hrf hp h128 hrb HD ES EI hf
        generalize ((r * 2 ^ f + (2 ^ f - 1) : Nat) : Int) = v at *
        generalize ((r * 2 ^ f : Nat) : Int) = q at *
        go_wp2_with fail
        generalize hR : Code.region 16 _ true = CC
        have eR : CC = Code.region 16 (RofN Try.f93 16) true := hR.symm.trans (by kernel_rfl)
        clear hR
        subst eR
        refine wp_region_noPanic ?_
        refine rg16 ⟨some ⟨g, 0, none⟩, m, mz⟩ f (r : Int) q v wr _ (fun c a d v w h => h) HF.out H1.out H2.out H3.out ⟨some ⟨g, 0, none⟩, m + 1, mz⟩ w5 HR.out ?_
        refine NoPanic.normal ?_
        refine ‹∀ a w, Code.wp Try.prog _ _ a w → _› _ _ ?_
        go_wp2
        go_ret
        exact ⟨g, m + 1, mz, rfl, E5.out.q, by rw [HE.out]; exact E5.out.o, E5.out.gg⟩
end Go.Proofs.Ytehejibllkmflaa
