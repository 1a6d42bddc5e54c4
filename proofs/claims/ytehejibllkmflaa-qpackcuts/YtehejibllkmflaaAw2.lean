/-
  awake: a fixed answer of the encoder. A contract that the statements' walks use.
-/
import Derived.Test.YtehejibllkmflaaAwE
import Derived.Test.YtehejibllkmflaaPfH
namespace Go.Proofs.Ytehejibllkmflaa
open Go.RowKit
set_option linter.unusedVariables false
set_option maxRecDepth 20000

set_option maxHeartbeats 8000000 in
theorem mayI_0 (eb mb : Nat) (wp : Value) (s t : ByteArray) (w : World) (h : E0 w eb mb) (hs : s.size = 1) (ht : t.size = 1) : Calls Try.prog 50 #[.pointer (some ⟨eb, 0, none⟩), wp, .agg #[.string s, .string t]] w fun e w' => e = .returned (.bool false) ∧ Q w w' := by
  have HE := hid (h.q ((Q.refl w).alloc (.cells #[.string s, .string t] 23)))
  have HF := hid (heap_alloc_new w (.cells #[.string s, .string t] 23))
  have HQ := hid ((Q.refl w).alloc (.cells #[.string s, .string t] 23))
  have HSZ := hid (fun u => sizeF_any s t u (by omega) (by omega))
  rw [hs, ht] at HSZ
  clear h hs ht
  go_enter Try.func50, Try.ntmps50
  go_wp2_with fail
  generalize hR : Code.region 1 _ true = CC
  have eR : CC = Code.region 1 (RofN Try.f50 1) true := hR.symm.trans (by kernel_rfl)
  clear hR
  subst eR
  generalize hW : World.alloc w _ = W0 at *
  generalize w.heap.size = fb at *
  clear hW
  refine mi1 eb mb fb s t W0 _ HE.out HF.out (fun u q => (count_0 eb mb u (HE.out.q q)).mono (by rintro e v ⟨rfl, q2⟩; exact ⟨rfl, q.trans q2⟩)) (fun u q => (last_0 eb mb s t u (HE.out.q q)).mono (by rintro e v ⟨rfl, q2⟩; exact ⟨rfl, q.trans q2⟩)) ?_
  intro W1 q1
  have H1 := hid q1
  clear q1
  go_wp2_with fail
  generalize hR : Code.region 2 _ true = CC
  have eR : CC = Code.region 2 (RofN Try.f50 2) true := hR.symm.trans (by kernel_rfl)
  clear hR
  subst eR
  refine mi2 eb mb fb s t W1 _ (HE.out.q H1.out) (blk_q H1.out HF.out) (fun u q => (HSZ.out u).mono (by rintro e v ⟨rfl, q2⟩; exact ⟨rfl, q.trans q2⟩)) ?_
  intro W2 q2
  have H2 := hid q2
  clear q2
  go_wp2_with fail
  go_ret
  exact ⟨rfl, (HQ.out.trans H1.out).trans H2.out⟩
theorem no_a : fndE (fun k => (strOfNums (stN k)).toList == (⟨#[97]⟩ : ByteArray).toList) = .returned (.tuple #[.int .i64 0, .bool false]) := by kernel_rfl
theorem no_ab : fndE (fun k => (strOfNums (stN k)).toList == (⟨#[97]⟩ : ByteArray).toList && (strOfNums (stV k)).toList == (⟨#[98]⟩ : ByteArray).toList) = .returned (.tuple #[.int .i64 0, .bool false]) := by kernel_rfl
theorem ln_a : ptB (sb (⟨#[97]⟩ : ByteArray)) 3 32 = [33, 97] := by kernel_rfl
theorem ln_b : ptB (sb (⟨#[98]⟩ : ByteArray)) 7 0 = [1, 98] := by kernel_rfl
theorem nm_8 : puB 0 8 0 = [0] := by kernel_rfl
theorem nm_7 : puB 0 7 0 = [0] := by kernel_rfl
set_option maxHeartbeats 8000000 in
theorem line_0 (w : World) : Calls Try.prog 52 #[.agg #[.string ⟨#[97]⟩, .string ⟨#[98]⟩]] w fun e w' => ∃ x : Sv, e = .returned (.slice x.a x.n x.c) ∧ Q w w' ∧ Row w' x [33, 97, 1, 98] ∧ New w.heap.size x := by
  have HF := hid (heap_alloc_new w (.cells #[.string ⟨#[97]⟩, .string ⟨#[98]⟩] 23))
  have HQ := hid ((Q.refl w).alloc (.cells #[.string ⟨#[97]⟩, .string ⟨#[98]⟩] 23))
  have HTA := hid (fun u => text_any ⟨#[97]⟩ 3 32 u (by decide) (by decide) (by decide))
  have HTB := hid (fun u => text_any ⟨#[98]⟩ 7 0 u (by decide) (by decide) (by decide))
  have HN := hid (fun u => sname_any ⟨#[97]⟩ u)
  rw [ln_a] at HTA
  rw [ln_b] at HTB
  rw [no_a] at HN
  have f0 : ∀ u, Q (w.alloc (.cells #[.string ⟨#[97]⟩, .string ⟨#[98]⟩] 23)) u → u.cell? ⟨w.heap.size, 0, none⟩ = some (.string ⟨#[97]⟩) ∧ u.cell? ⟨w.heap.size, 1, none⟩ = some (.string ⟨#[98]⟩) := fun u q => by
    have := blk_q q HF.out
    exact ⟨by rw [cell_of_row u _ 0 _ 23 (0, 0) this]; rfl, by rw [cell_of_row u _ 1 _ 23 (0, 0) this]; rfl⟩
  have HF0 := hid f0
  clear f0 HF
  generalize (⟨#[97]⟩ : ByteArray) = sa at *
  generalize (⟨#[98]⟩ : ByteArray) = sv at *
  go_enter Try.func52, Try.ntmps52
  go_wp2_with fail
  generalize hW : World.alloc w _ = W0 at *
  clear hW
  refine (HTA.out _).mono ?_
  rintro e w1 ⟨⟨aa, an, ac⟩, rfl, q1, r1, n1⟩
  have S1 := hid (Row.seg r1)
  have L1 := hid (Row.len r1)
  have Q1 := hid q1
  clear r1 n1 q1
  obtain ⟨c0, c1⟩ := HF0.out w1 Q1.out
  go_wp2_with (go_at_call 70; refine (HN.out _).mono ?_; rintro e w2 ⟨rfl, q2⟩; refine Hid.out ?_)
  refine hid ?_
  have Q2 := hid (Q1.out.trans q2)
  have S2 := hid (S1.out.q q2)
  clear c0 c1 q2 S1 Q1
  obtain ⟨c0, c1⟩ := HF0.out w2 Q2.out
  go_wp2_with (go_at_call 69; refine (HTB.out _).mono ?_; rintro e w3 ⟨⟨ba, bn, bc⟩, rfl, q3, r3, n3⟩; refine Hid.out ?_)
  refine hid ?_
  have Q3 := hid (Q2.out.trans q3)
  have S3 := hid (S2.out.q q3)
  have T3 := hid (Row.seg r3)
  have M3 := hid (Row.len r3)
  have HC := hid (concat_two w3 ⟨aa, an, ac⟩ ⟨ba, bn, bc⟩ [33, 97] [1, 98] ⟨S3.out, L1.out⟩ ⟨T3.out, M3.out⟩ (by decide))
  clear q3 r3 n3 c0 c1 S2 Q2
  dsimp only at HC
  go_wp2_with (go_at_call 18; refine HC.out.mono ?_; rintro e w4 ⟨⟨ra, rn, rc⟩, rfl, q4, r4, n4⟩)
  go_ret
  exact ⟨⟨ra, rn, rc⟩, rfl, (HQ.out.trans Q3.out).trans q4, r4, n4.mono (HQ.out.trans Q3.out).size⟩
set_option maxHeartbeats 4000000 in
/-- One line more. -/
theorem addW_any (wb : Nat) (c0 c1 c2 : Value) (ls x : Sv) (X Y : List Int) (w : World) (hb : w.heap[wb]? = some (.cells #[c0, c1, c2, .slice ls.a ls.n ls.c] 73 (0, 0))) (hl : Row w ls X) (hx : Seg w x.a Y) (hxl : Y.length = x.n) (hne : ∀ b, blk ls.a = some b → b ≠ wb) (hn : ls.n + x.n ≤ 140737488355328) :
    Calls Try.prog 47 #[.pointer (some ⟨wb, 0, none⟩), .slice x.a x.n x.c] w fun e w' => e = .returned (.tuple #[]) ∧ ∃ y : Sv, w'.heap[wb]? = some (.cells #[c0, c1, c2, .slice y.a y.n y.c] 73 (0, 0)) ∧ Row w' y (X ++ Y) ∧ Keep (fun b => b = wb ∨ blk ls.a = some b) w w' ∧ (blk y.a = blk ls.a ∨ blk y.a = some w.heap.size) := by
  obtain ⟨y, w1, hrun, hrow, hk, hbb⟩ := row_appendB (ty := 30) hl (src_seg (c := x.c) hx hxl) hn
  have hb1 : w1.heap[wb]? = some (.cells #[c0, c1, c2, .slice ls.a ls.n ls.c] 73 (0, 0)) := (hk.block wb (lt_of_block hb) (fun e => hne wb e rfl)).trans hb
  have hyb : ∀ b, blk y.a = some b → b ≠ wb := fun b e h => by
    rcases hbb with h2 | h2
    · exact hne b (by rw [← h2]; exact e) h
    · rw [h2] at e; cases e; have := lt_of_block hb; omega
  have h3 : w.cell? ⟨wb, 3, none⟩ = some (.slice ls.a ls.n ls.c) := by rw [cell_of_row w _ 3 _ 73 (0, 0) hb]; rfl
  have g3 : w1.cell? ⟨wb, 3, none⟩ = some (.slice ls.a ls.n ls.c) := by rw [cell_of_row w1 _ 3 _ 73 (0, 0) hb1]; rfl
  have f3 : w1.frozen? ⟨wb, 3, none⟩ = false := frozen_of_row w1 _ 3 _ 73 hb1
  have K2 : Keep (fun b => b = wb) w1 (w1.setCell ⟨wb, 3, none⟩ (.slice y.a y.n y.c)) := (Keep.refl _ w1).setCell wb 3 _ (.inl rfl)
  have HY := hid (show ∃ y : Sv, (w1.setCell ⟨wb, 3, none⟩ (.slice y.a y.n y.c)).heap[wb]? = some (.cells #[c0, c1, c2, .slice y.a y.n y.c] 73 (0, 0)) ∧ True from ⟨y, heap_setCell_same w1 _ 3 _ 73 _ hb1, trivial⟩)
  have HR := hid (show (w1.setCell ⟨wb, 3, none⟩ (.slice y.a y.n y.c)).heap[wb]? = some (.cells #[c0, c1, c2, .slice y.a y.n y.c] 73 (0, 0)) ∧ Row (w1.setCell ⟨wb, 3, none⟩ (.slice y.a y.n y.c)) y (X ++ Y) ∧ Keep (fun b => b = wb ∨ blk ls.a = some b) w (w1.setCell ⟨wb, 3, none⟩ (.slice y.a y.n y.c)) ∧ (blk y.a = blk ls.a ∨ blk y.a = some w.heap.size) from
    ⟨heap_setCell_same w1 _ 3 _ 73 _ hb1, Sub.keep hrow K2 (fun b e h => hyb b e h), (hk.mono (fun i _ h => .inr h)).trans (K2.mono (fun i _ h => .inl h)), hbb⟩)
  obtain ⟨la, ln, lc⟩ := ls
  obtain ⟨xa, xn, xc⟩ := x
  obtain ⟨ya, yn, yc⟩ := y
  dsimp only at *
  clear hb hl hx hxl hne hn hrow hk hbb hb1 hyb K2 HY
  go_enter Try.func47, Try.ntmps47
  go_wp2_with (at_builtin; refine Lib.wpList_append_run _ rfl _ _ _ _ rfl _ _ rfl rfl _ _ hrun ?_)
  go_end0
  exact ⟨rfl, ⟨ya, yn, yc⟩, HR.out⟩
set_option maxHeartbeats 8000000 in
theorem write_0 (eb mb wb : Nat) (w : World) (h : E0 w eb mb) (hb : w.heap[wb]? = some (.cells #[.int .i64 0, .int .i64 0, .int .i64 0, .slice none 0 0] 73 (0, 0))) (hne : eb ≠ wb) :
    Calls Try.prog 27 #[.pointer (some ⟨eb, 0, none⟩), .pointer (some ⟨wb, 0, none⟩), .agg #[.string ⟨#[97]⟩, .string ⟨#[98]⟩]] w fun e w' => e = .returned (.tuple #[]) ∧ ∃ y : Sv, w'.heap[wb]? = some (.cells #[.int .i64 0, .int .i64 0, .int .i64 0, .slice y.a y.n y.c] 73 (0, 0)) ∧ Row w' y [33, 97, 1, 98] ∧ Keep (fun b => b = wb) w w' := by
  have HA : Hid (∀ u, Calls Try.prog 46 #[.agg #[.string ⟨#[97]⟩, .string ⟨#[98]⟩]] u fun e w' => e = .returned (.tuple #[.int .i64 0, .bool false]) ∧ Q u w') := hid (fun u => by have := sfield_any ⟨#[97]⟩ ⟨#[98]⟩ u; rw [no_ab] at this; exact this)
  have HL := hid (fun u => line_0 u)
  have HLA := hid (fun u (k : E0 u eb mb) => last_0 eb mb ⟨#[97]⟩ ⟨#[98]⟩ u k)
  have HMI := hid (fun u (k : E0 u eb mb) wp => mayI_0 eb mb wp ⟨#[97]⟩ ⟨#[98]⟩ u k (by decide) (by decide))
  have HE := hid h
  have HB := hid hb
  clear h hb
  generalize (⟨#[97]⟩ : ByteArray) = sa at *
  generalize (⟨#[98]⟩ : ByteArray) = sv at *
  go_enter Try.func27, Try.ntmps27
  go_wp2_with fail
  have HF := hid (heap_alloc_new w (.cells #[.string sa, .string sv] 23))
  have HQ := hid ((Q.refl w).alloc (.cells #[.string sa, .string sv] 23))
  generalize hW : World.alloc w _ = W0 at *
  clear hW
  generalize w.heap.size = fb at *
  refine (HA.out _).mono ?_
  rintro e w1 ⟨rfl, q1⟩
  have Q1 := hid (HQ.out.trans q1)
  have F1 := hid (blk_q q1 HF.out)
  clear q1 HQ HF HA
  go_wp2_with fail
  generalize hR : Code.region 4 _ true = CC
  have eR : CC = Code.region 4 (RofN Try.f27 4) true := hR.symm.trans (by kernel_rfl)
  clear hR
  subst eR
  refine wr4 eb mb fb sa sv w1 _ (HE.out.q Q1.out) F1.out (fun u q => (HLA.out u (HE.out.q (Q1.out.trans q))).mono (by rintro e v ⟨rfl, q2⟩; exact ⟨rfl, q.trans q2⟩)) ?_
  intro w2 q2
  have Q2 := hid (Q1.out.trans q2)
  have F2 := hid (blk_q q2 F1.out)
  clear q2 Q1 F1 HLA
  have f20 : w2.cell? ⟨fb, 0, none⟩ = some (.string sa) := by rw [cell_of_row w2 _ 0 _ 23 (0, 0) F2.out]; rfl
  have f21 : w2.cell? ⟨fb, 1, none⟩ = some (.string sv) := by rw [cell_of_row w2 _ 1 _ 23 (0, 0) F2.out]; rfl
  go_wp2_with (go_at_call 50; refine (HMI.out _ (HE.out.q Q2.out) _).mono ?_; rintro e w3 ⟨rfl, q3⟩; have Q3 := hid (Q2.out.trans q3); have F3 := hid (blk_q q3 F2.out); clear q3 Q2 F2 f20 f21 HMI; have f20 : w3.cell? ⟨fb, 0, none⟩ = some (.string sa) := (by rw [cell_of_row w3 _ 0 _ 23 (0, 0) F3.out]; rfl); have f21 : w3.cell? ⟨fb, 1, none⟩ = some (.string sv) := (by rw [cell_of_row w3 _ 1 _ 23 (0, 0) F3.out]; rfl); refine Hid.out ?_)
  refine hid ?_
  go_wp2_with (go_at_call 52; refine (HL.out _).mono ?_; rintro e w4 ⟨⟨xa, xn, xc⟩, rfl, q4, r4, n4⟩; refine Hid.out ?_)
  refine hid ?_
  have Q4 := hid (Q3.out.trans q4)
  have B4 := hid (blk_q Q4.out HB.out)
  have HAD := hid (addW_any wb _ _ _ ⟨none, 0, 0⟩ ⟨xa, xn, xc⟩ [] [33, 97, 1, 98] w4 B4.out (nil_row _) (Row.seg r4) (Row.len r4) (fun b e => by cases e) (by have : [33, 97, 1, 98].length = xn := Row.len r4; simp at this; show 0 + xn ≤ _; omega))
  dsimp only at HAD
  clear q4 r4 n4 f20 f21
  go_wp2_with (go_at_call 47; refine HAD.out.mono ?_; rintro e w5 ⟨rfl, ⟨ya, yn, yc⟩, b5, r5, k5, _⟩)
  go_end0
  refine ⟨rfl, ⟨ya, yn, yc⟩, b5, r5, (Keep.ofQ Q4.out).trans (k5.mono (fun i _ h => ?_))⟩
  rcases h with h | h
  · exact h
  · cases h
set_option maxHeartbeats 4000000 in
theorem huge_0 (fb : Nat) (s t : ByteArray) (w : World) (hf : FB w fb s t) (hs : s.size = 1) (ht : t.size = 1) : Calls Try.prog 25 #[.slice (some ⟨fb, 0, none⟩) 1 1] w fun e w' => e = .returned (.bool false) ∧ Q w w' := by
  have HSZ := hid (fun u => sizeF_any s t u (by omega) (by omega))
  rw [hs, ht] at HSZ
  have HF := hid hf
  clear hs ht hf
  go_enter Try.func25, Try.ntmps25
  go_wp2
  go_loopw [3, 8] (fun n i wr => Q w wr ∧ ((n = .int .i64 0 ∧ i = .int .i64 0) ∨ (n = .int .i64 34 ∧ i = .int .i64 1))) (fun _ i _ => (1 - intOf i).toNat)
  case atStart => exact ⟨Q.refl w, .inl ⟨rfl, rfl⟩⟩
  case round =>
    obtain ⟨hq, h | h⟩ := hrel
    · obtain ⟨rfl, rfl⟩ := h
      have F1 := hid (blk_q hq HF.out)
      have HQ := hid hq
      have c0 : wr.cell? ⟨fb, 0, none⟩ = some (.string s) := by rw [cell_of_row wr _ 0 _ 23 (0, 0) F1.out]; rfl
      have c1 : wr.cell? ⟨fb, 1, none⟩ = some (.string t) := by rw [cell_of_row wr _ 1 _ 23 (0, 0) F1.out]; rfl
      clear hq
      go_wp2_with (go_at_call 45; refine (HSZ.out _).mono ?_; rintro e w3 ⟨rfl, q3⟩)
      go_roundw
      case rel => exact ⟨(HQ.out.alloc _).trans q3, .inr ⟨by rfl, by go_num⟩⟩
      case measure => simp [intOf]
    · obtain ⟨rfl, rfl⟩ := h
      have HQ := hid hq
      clear hq
      go_wp2
      go_ret
      exact ⟨rfl, HQ.out⟩
theorem coded_0 (eb : Nat) (w : World) : Calls Try.prog 28 #[.pointer (some ⟨eb, 0, none⟩), .int .i64 0] w fun e w' => e = .returned (.int .i64 0) ∧ Q w w' := by
  go_enter Try.func28, Try.ntmps28
  go_wp2
  go_ret
  exact ⟨rfl, Q.refl w⟩
set_option maxHeartbeats 8000000 in
theorem encode_0 (eb mb fb : Nat) (w : World) (h : E0 w eb mb) (hf : FB w fb ⟨#[97]⟩ ⟨#[98]⟩) :
    Calls Try.prog 14 #[.pointer (some ⟨eb, 0, none⟩), .int .i64 0, .slice (some ⟨fb, 0, none⟩) 1 1] w fun e w' => ∃ x : Sv, e = .returned (.tuple #[.slice x.a x.n x.c, .int .i64 0]) ∧ Q w w' ∧ Row w' x [0, 0, 33, 97, 1, 98] ∧ New w.heap.size x := by
  have HW := hid (fun u => within_any 0 4611686018427387903 u)
  have HU := hid (fun u k => huge_0 fb ⟨#[97]⟩ ⟨#[98]⟩ u k (by decide) (by decide))
  have HFR := hid (fun u k => free_0 eb mb u k)
  have HWR := hid (fun u wb k b hne => write_0 eb mb wb u k b hne)
  have HE := hid h
  have HF := hid hf
  clear h hf
  generalize (⟨#[97]⟩ : ByteArray) = sa at *
  generalize (⟨#[98]⟩ : ByteArray) = sv at *
  go_enter Try.func14, Try.ntmps14
  go_wp2_with (first
    | (go_at_call 15; refine (HW.out _).mono ?_; rintro e w1 ⟨rfl, rfl⟩)
    | (go_at_call 25; refine (HU.out _ HF.out).mono ?_; rintro e w2 ⟨rfl, q2⟩)
    | (go_at_call 26; refine (HFR.out _ (HE.out.q q2)).mono ?_; rintro e w3 ⟨rfl, q3⟩; refine Hid.out ?_))
  refine hid ?_
  have Q3 := hid (q2.trans q3)
  clear q2 q3
  go_wp2_with fail
  have hlt := lt_of_block (HE.out.q Q3.out).e
  have hlm := lt_of_block (HE.out.q Q3.out).m
  have hsz := Q3.out.size
  have S0 := hid (show SE w eb mb w3.heap.size ⟨none, 0, 0⟩ (w3.alloc (.cells #[.int .i64 0, .int .i64 0, .int .i64 0, .slice none 0 0] 73)) from ⟨Q3.out.alloc _, HE.out.q (Q3.out.alloc _), heap_alloc_new w3 _⟩)
  generalize hW : World.alloc w3 _ = W0 at *
  clear hW
  generalize w3.heap.size = wb at *
  go_loopw [24] (fun i wr => (i = .int .i64 0 ∧ SE w eb mb wb ⟨none, 0, 0⟩ wr) ∨ (i = .int .i64 1 ∧ ∃ y : Sv, SE w eb mb wb y wr ∧ Row wr y [33, 97, 1, 98])) (fun i _ => (1 - intOf i).toNat)
  case atStart => exact .inl ⟨rfl, S0.out⟩
  case round =>
    rcases hrel with ⟨rfl, hS⟩ | ⟨rfl, ⟨ya, yn, yc⟩, hS, hR⟩
    · have HS := hid hS
      have c0 : wr.cell? ⟨fb, 0, none⟩ = some (.string sa) := by rw [cell_of_row wr _ 0 _ 23 (0, 0) (blk_q hS.q HF.out)]; rfl
      have c1 : wr.cell? ⟨fb, 1, none⟩ = some (.string sv) := by rw [cell_of_row wr _ 1 _ 23 (0, 0) (blk_q hS.q HF.out)]; rfl
      clear hS
      go_wp2_with (go_at_call 27; refine (HWR.out _ wb (HS.out.e.q ((Q.refl wr).alloc _)) (blk_q ((Q.refl wr).alloc _) HS.out.b) (by omega)).mono ?_; rintro e w5 ⟨rfl, y, b5, r5, k5⟩)
      go_roundw
      case rel =>
        have hsz5 := (HS.out.q.alloc (.cells #[.string sa, .string sv] 23)).size
        have kk := HS.out.q.alloc (.cells #[.string sa, .string sv] 23)
        exact .inr ⟨by go_num, y, ⟨k5.below kk hsz5 (fun i e => by omega), ⟨(k5.block _ (by have := lt_of_block (HS.out.e.q ((Q.refl wr).alloc (.cells #[.string sa, .string sv] 23))).e; exact this) (by omega)).trans (HS.out.e.q ((Q.refl wr).alloc _)).e, (k5.block _ (by have := lt_of_block (HS.out.e.q ((Q.refl wr).alloc (.cells #[.string sa, .string sv] 23))).m; exact this) (by omega)).trans (HS.out.e.q ((Q.refl wr).alloc _)).m⟩, b5⟩, r5⟩
      case measure => simp [intOf]
    · have HS := hid hS
      have HR := hid hR
      have n1 := hS.n
      clear hS hR
      go_wp2_with fail
      generalize hR : Code.region 13 _ true = CC
      have eR : CC = Code.region 13 (RofN Try.f14 13) true := hR.symm.trans (by kernel_rfl)
      clear hR
      subst eR
      refine wp_region_noPanic ?_
      refine en13 eb mb wb ⟨ya, yn, yc⟩ wr _ (fun c a d v w h => h) (fun u k => coded_0 eb u) (fun u k k1 k2 => ?_) ⟨Q.refl _, HS.out.e, HS.out.b⟩ ?_
      · rcases k2 with rfl | rfl
        · refine (num_any 0 7 0 u (by decide) (by decide)).mono ?_
          rw [nm_7]
          rintro e v ⟨x, rfl, q, r, _⟩
          exact ⟨x, rfl, q, Row.seg r, (Row.len r).symm⟩
        · refine (num_any 0 8 0 u (by decide) (by decide)).mono ?_
          rw [nm_8]
          rintro e v ⟨x, rfl, q, r, _⟩
          exact ⟨x, rfl, q, Row.seg r, (Row.len r).symm⟩
      intro aa an ac ba bn bc u hu sa1 na1 sb1 nb1
      subst na1
      subst nb1
      have HQ := hid (HS.out.q.trans hu.q)
      have c3 : u.cell? ⟨wb, 3, none⟩ = some (.slice ya yn yc) := by rw [cell_of_row u _ 3 _ 73 (0, 0) hu.b]; rfl
      have HC := hid (concat_three u ⟨aa, 1, ac⟩ ⟨ba, 1, bc⟩ ⟨ya, yn, yc⟩ [0] [0] [33, 97, 1, 98] ⟨sa1, rfl⟩ ⟨sb1, rfl⟩ ⟨(Row.seg HR.out).q hu.q, Row.len HR.out⟩ (by decide))
      dsimp only at HC
      clear hu sa1 sb1 n1
      refine NoPanic.normal ?_
      refine ‹∀ a w, Code.wp Try.prog _ _ a w → _› _ _ ?_
      go_wp2_with (go_at_call 18; refine HC.out.mono ?_; rintro e w9 ⟨⟨ra, rn, rc⟩, rfl, q9, r9, n9⟩)
      go_ret2
      exact ⟨⟨ra, rn, rc⟩, rfl, HQ.out.trans q9, r9, n9.mono HQ.out.size⟩
theorem aw_str : strOfNums [0, 0, 33, 97, 1, 98] = (⟨#[0, 0, 33, 97, 1, 98]⟩ : ByteArray) := by kernel_rfl
set_option maxHeartbeats 4000000 in
theorem awake_any (w : World) : Calls Try.prog 7 #[] w fun e w' => e = .returned (.bool true) ∧ Q w w' := by
  have HN := hid (fun u => newE_0 u)
  have HEN := hid (fun eb mb fb u k f => encode_0 eb mb fb u k f)
  go_enter Try.func7, Try.ntmps7
  go_wp2_with (go_at_call 13; refine (HN.out _).mono ?_; rintro e w1 ⟨eb, mb, rfl, q1, h1⟩; have Q1 := hid q1; have H1 := hid h1; clear q1 h1; refine Hid.out ?_)
  refine hid ?_
  go_wp2_with (go_at_call 14; refine (HEN.out eb mb _ _ (H1.out.q ((Q.refl w1).alloc _)) (heap_alloc_new w1 _)).mono ?_; rintro e w2 ⟨⟨xa, xn, xc⟩, rfl, q2, r2, n2⟩; have hcv := row_str_any r2; rw [aw_str] at hcv; have Q2 := hid ((Q1.out.alloc _).trans q2); clear q2 r2 n2)
  go_ret
  exact ⟨rfl, Q2.out⟩
end Go.Proofs.Ytehejibllkmflaa
