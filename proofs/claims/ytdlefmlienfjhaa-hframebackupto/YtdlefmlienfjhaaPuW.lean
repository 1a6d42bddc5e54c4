/-
  The law on what hframe writes, walked.
-/
import Derived.Test.YtdlefmlienfjhaaWrS
import Derived.Test.YtdlefmlienfjhaaWrB
import Derived.Test.YtdlefmlienfjhaaHfJ
import Derived.Test.YtdlefmlienfjhaaCopy
namespace Go.Proofs.Ytdlefmlienfjhaa
open Go.RowKit
set_option linter.unusedVariables false
set_option maxRecDepth 100000

theorem same_t (x y : Sv) (zs : List Int) (w : World) (hx : Seg w x.a zs) (lx : zs.length = x.n) (hy : Seg w y.a zs) (ly : zs.length = y.n) (hb : zs.length ≤ 9223372036854775807) :
    Calls Try.prog 26 #[.slice x.a x.n x.c, .slice y.a y.n y.c] w fun e w' => e = .returned (.bool true) ∧ Q w w' := by
  refine (same_any x.a y.a x.n y.n x.c y.c zs zs w lx ly (by omega) (by omega) hx hy).mono ?_
  rintro e w' ⟨rfl, q⟩
  exact ⟨by simp, q⟩
theorem ga_ok {k : Int} (h : okN k) : gaE k = 0 ∧ gaB k = frB 7 (form k) := by
  have h1 : gaE k = 0 := nmE_ok (by intro n hn; simp at hn; subst hn; exact h)
  refine ⟨h1, ?_⟩
  unfold gaB
  rw [h1, if_pos rfl, nmB_ok (by intro n hn; simp at hn; subst hn; exact h)]
  simp
theorem ga_no {k : Int} (h : ¬ okN k) : gaE k = 10 ∧ gaB k = [] := by
  have h1 : gaE k = 10 := nmE_no (n := k) (by simp) h
  exact ⟨h1, by unfold gaB; rw [h1, if_neg (by decide)]⟩
theorem fr7_form (k : Int) : frE 7 (form k).length = 0 := by
  have := form_length k
  have := sz_le k
  unfold frE
  rw [if_neg (by decide), if_neg (by omega)]
set_option maxHeartbeats 16000000 in
theorem puts_walk (k : Int) (pa : Option Addr) (pn pc : Nat) (ps : List Int) (c b l : Int) (w : World) (hl : ps.length = pn) (hn : pn ≤ 140737488355328) (hs : Seg w pa ps) :
    Calls Try.prog 4 #[.int .i64 k, .slice pa pn pc, .agg #[.int .i64 c, .int .i64 b, .int .i64 l]] w fun e w' => e = .returned (.bool true) ∧ Q w w' := by
  have HL := hid hl
  have HS := hid hs
  have HQ0 := hid ((Q.refl w).alloc (.cells #[.int .i64 c, .int .i64 b, .int .i64 l] 39))
  have HB0 := hid (heap_alloc_new w (.cells #[.int .i64 c, .int .i64 b, .int .i64 l] 39))
  have HCP := hid (rcopy_any pa pn pc ps _ hl hn (hs.q HQ0.out))
  have HFR := hid (fun u a (hq : Seg u a ps) => frame_any k a pn pn ps u hl (by omega) hq)
  have HRF := hid (fun u (hq : Seg u pa ps) => rframe_any k pa pn pc ps u hl hn hq)
  have HPS := hid (fun u => settings_put_any c b l u)
  have HRS := hid (fun u => rsettings_any c b l u)
  have HGA := hid (fun u => goaway_any k u)
  have HRP := hid (fun u => rput_any k u)
  have HAW := hid (fun u => awake_any u)
  have h7 := fr7_form k
  have h7l : (form k).length ≤ 8 := by rw [form_length]; exact sz_le k
  have HR7 := hid (fun u a n c (h : (form k).length = n) (hq : Seg u a (form k)) => rframe_any 7 a n c (form k) u h (by omega) hq)
  have H7 := hid h7
  clear hl hs h7
  generalize frE k pn = E1 at *
  generalize hP1 : frB k ps = P1 at *
  generalize stE c b l = E2 at *
  generalize hP2 : stB c b l = P2 at *
  have hp1 : ∀ n : Nat, P1.length = n → P1.length ≤ 9223372036854775807 := fun _ _ => by rw [← hP1]; have := frB_len k ps; have := HL.out; omega
  have hp2 : ∀ n : Nat, P2.length = n → P2.length ≤ 9223372036854775807 := fun _ _ => by rw [← hP2]; unfold stB; have := frB_len 4 (nmB (stL c b l)); have := nmB_len (stL c b l); have := stL_len c b l; split <;> simp <;> omega
  clear hP1 hP2
  by_cases hk : okN k
  · rw [(ga_ok hk).1, (ga_ok hk).2] at HGA
    have hp3 : (frB 7 (form k)).length ≤ 9223372036854775807 := by have := frB_len 7 (form k); omega
    have hk0 : ¬ k < 0 := by omega
    have hk0b : decide (k < 0) = false := decide_eq_false hk0
    have hk1 : ¬ 4611686018427387903 < k := by omega
    clear hk
    go_enter Try.func4, Try.ntmps4
    go_wp2_with (first
      | (go_at_call 11; refine HCP.out.mono ?_; rintro e w1 ⟨g, rfl, q1, o1, _⟩; have X1 := hid (And.intro (HQ0.out.trans q1) (And.intro o1.seg (blk_q q1 HB0.out))); clear q1 o1 HCP)
      | (go_at_call 20; refine (HFR.out w1 _ X1.out.2.1).mono ?_; rintro e w2 ⟨⟨y1a, y1n, y1c⟩, rfl, q2, r2, n2⟩; have X2 := hid (And.intro q2 r2); clear q2 r2 n2)
      | (go_at_call 21; refine (HRF.out w2 (HS.out.q (X1.out.1.trans X2.out.1))).mono ?_; rintro e w3 ⟨⟨y2a, y2n, y2c⟩, rfl, q3, r3, n3⟩; have X3 := hid (And.intro q3 r3); have hB3 := blk_q (X2.out.1.trans q3) X1.out.2.2; clear q3 r3 n3 HRF)
      | (refine wpList_load_row rfl 39 _ rfl w.heap.size rfl 39 #[.int .i64 c, .int .i64 b, .int .i64 l] (0, 0) _ hB3 Try.underlying39 rfl info39 ?_)
      | (go_at_call 22; refine (HPS.out w3).mono ?_; rintro e w4 ⟨⟨y3a, y3n, y3c⟩, rfl, q4, r4, n4⟩; have X4 := hid (And.intro q4 r4); have hB4 := blk_q q4 hB3; have f40 : w4.cell? ⟨w.heap.size, 0, none⟩ = some (.int .i64 c) := (by rw [cell_of_row w4 _ 0 _ 39 (0, 0) hB4]; rfl); have f41 : w4.cell? ⟨w.heap.size, 1, none⟩ = some (.int .i64 b) := (by rw [cell_of_row w4 _ 1 _ 39 (0, 0) hB4]; rfl); have f42 : w4.cell? ⟨w.heap.size, 2, none⟩ = some (.int .i64 l) := (by rw [cell_of_row w4 _ 2 _ 39 (0, 0) hB4]; rfl); clear q4 r4 n4 hB3)
      | (go_at_call 23; refine (HRS.out w4).mono ?_; rintro e w5 ⟨⟨y4a, y4n, y4c⟩, rfl, q5, r5⟩; have X5 := hid (And.intro q5 r5); clear q5 r5)
      | (go_at_call 24; refine (HGA.out w5).mono ?_; rintro e w6 ⟨⟨y5a, y5n, y5c⟩, rfl, q6, r6, n6⟩; have X6 := hid (And.intro q6 r6); clear q6 r6 n6)
      | (go_at_call 25; refine (HRP.out w6).mono ?_; rintro e w7 ⟨⟨y6a, y6n, y6c⟩, rfl, q7, s7, l7⟩; have X7 := hid q7; have HR78 := HR7.out w7 y6a y6n y6c l7 s7; have hl7 : (form k).length = y6n := l7; rw [← hl7, H7.out] at HR78; have HR79 := hid HR78; have HL7 := hid hl7; clear q7 s7 l7 HR78 hl7)
      | (go_at_call 21; (try rw [← HL7.out]); refine HR79.out.mono ?_; rintro e w8 ⟨⟨y7a, y7n, y7c⟩, rfl, q8, r8, n8⟩; have X8 := hid (And.intro q8 r8); clear q8 r8 n8)
      | (go_at_call 10; refine (HAW.out w8).mono ?_; rintro e w9 ⟨rfl, q9⟩; have QAW := hid q9; have Q89 := X8.out.1.trans q9; have Q79 := X7.out.trans Q89; have Q69 := X6.out.1.trans Q79; have Q59 := X5.out.1.trans Q69; have Q49 := X4.out.1.trans Q59; have Q39 := X3.out.1.trans Q49; have QW9 := hid ((X1.out.1.trans X2.out.1).trans Q39); have SM1 := hid (fun u (q : Q w9 u) => same_t ⟨y1a, y1n, y1c⟩ ⟨y2a, y2n, y2c⟩ P1 u ((Row.seg X2.out.2).q (Q39.trans q)) (Row.len X2.out.2) ((Row.seg X3.out.2).q (Q49.trans q)) (Row.len X3.out.2) (hp1 y1n (Row.len X2.out.2))); have SM2 := hid (fun u (q : Q w9 u) => same_t ⟨y3a, y3n, y3c⟩ ⟨y4a, y4n, y4c⟩ P2 u ((Row.seg X4.out.2).q (Q59.trans q)) (Row.len X4.out.2) ((Row.seg X5.out.2).q (Q69.trans q)) (Row.len X5.out.2) (hp2 y3n (Row.len X4.out.2))); have SM3 := hid (fun u (q : Q w9 u) => same_t ⟨y5a, y5n, y5c⟩ ⟨y7a, y7n, y7c⟩ (frB 7 (form k)) u ((Row.seg X6.out.2).q (Q79.trans q)) (Row.len X6.out.2) ((Row.seg X8.out.2).q (QAW.out.trans q)) (Row.len X8.out.2) hp3); clear q9 Q89 Q79 Q69 Q59 Q49 Q39)
      | (go_at_call 26; refine (SM1.out _ (Q.refl _)).mono ?_; rintro e w10 ⟨rfl, q10⟩; have Q10 := hid q10; clear q10 SM1)
      | (go_at_call 26; refine (SM2.out _ Q10.out).mono ?_; rintro e w11 ⟨rfl, q11⟩; have Q11 := hid (Q10.out.trans q11); clear q11 SM2)
      | (go_at_call 26; refine (SM3.out _ Q11.out).mono ?_; rintro e w12 ⟨rfl, q12⟩; have Q12 := hid (Q11.out.trans q12); clear q12 SM3))
    go_ret
    exact ⟨rfl, QW9.out.trans Q12.out⟩
  · rw [(ga_no hk).1, (ga_no hk).2] at HGA
    have hp3 : ([] : List Int).length ≤ 9223372036854775807 := by decide
    by_cases hk0 : k < 0
    · clear hk
      go_enter Try.func4, Try.ntmps4
      go_wp2_with (first
        | (go_at_call 11; refine HCP.out.mono ?_; rintro e w1 ⟨g, rfl, q1, o1, _⟩; have X1 := hid (And.intro (HQ0.out.trans q1) (And.intro o1.seg (blk_q q1 HB0.out))); clear q1 o1 HCP)
        | (go_at_call 20; refine (HFR.out w1 _ X1.out.2.1).mono ?_; rintro e w2 ⟨⟨y1a, y1n, y1c⟩, rfl, q2, r2, n2⟩; have X2 := hid (And.intro q2 r2); clear q2 r2 n2)
        | (go_at_call 21; refine (HRF.out w2 (HS.out.q (X1.out.1.trans X2.out.1))).mono ?_; rintro e w3 ⟨⟨y2a, y2n, y2c⟩, rfl, q3, r3, n3⟩; have X3 := hid (And.intro q3 r3); have hB3 := blk_q (X2.out.1.trans q3) X1.out.2.2; clear q3 r3 n3 HRF)
        | (refine wpList_load_row rfl 39 _ rfl w.heap.size rfl 39 #[.int .i64 c, .int .i64 b, .int .i64 l] (0, 0) _ hB3 Try.underlying39 rfl info39 ?_)
        | (go_at_call 22; refine (HPS.out w3).mono ?_; rintro e w4 ⟨⟨y3a, y3n, y3c⟩, rfl, q4, r4, n4⟩; have X4 := hid (And.intro q4 r4); have hB4 := blk_q q4 hB3; have f40 : w4.cell? ⟨w.heap.size, 0, none⟩ = some (.int .i64 c) := (by rw [cell_of_row w4 _ 0 _ 39 (0, 0) hB4]; rfl); have f41 : w4.cell? ⟨w.heap.size, 1, none⟩ = some (.int .i64 b) := (by rw [cell_of_row w4 _ 1 _ 39 (0, 0) hB4]; rfl); have f42 : w4.cell? ⟨w.heap.size, 2, none⟩ = some (.int .i64 l) := (by rw [cell_of_row w4 _ 2 _ 39 (0, 0) hB4]; rfl); clear q4 r4 n4 hB3)
        | (go_at_call 23; refine (HRS.out w4).mono ?_; rintro e w5 ⟨⟨y4a, y4n, y4c⟩, rfl, q5, r5⟩; have X5 := hid (And.intro q5 r5); clear q5 r5)
        | (go_at_call 24; refine (HGA.out w5).mono ?_; rintro e w6 ⟨⟨y5a, y5n, y5c⟩, rfl, q6, r6, n6⟩; have X6 := hid (And.intro q6 r6); clear q6 r6 n6)
        | (go_at_call 25; refine (HRP.out w6).mono ?_; rintro e w7 ⟨⟨y6a, y6n, y6c⟩, rfl, q7, s7, l7⟩; have X7 := hid q7; have HR78 := HR7.out w7 y6a y6n y6c l7 s7; have hl7 : (form k).length = y6n := l7; rw [← hl7, H7.out] at HR78; have HR79 := hid HR78; have HL7 := hid hl7; clear q7 s7 l7 HR78 hl7)
        | (go_at_call 21; (try rw [← HL7.out]); refine HR79.out.mono ?_; rintro e w8 ⟨⟨y7a, y7n, y7c⟩, rfl, q8, r8, n8⟩; have X8 := hid (And.intro q8 r8); clear q8 r8 n8)
        | (go_at_call 10; refine (HAW.out w8).mono ?_; rintro e w9 ⟨rfl, q9⟩; have QAW := hid q9; have Q89 := X8.out.1.trans q9; have Q79 := X7.out.trans Q89; have Q69 := X6.out.1.trans Q79; have Q59 := X5.out.1.trans Q69; have Q49 := X4.out.1.trans Q59; have Q39 := X3.out.1.trans Q49; have QW9 := hid ((X1.out.1.trans X2.out.1).trans Q39); have SM1 := hid (fun u (q : Q w9 u) => same_t ⟨y1a, y1n, y1c⟩ ⟨y2a, y2n, y2c⟩ P1 u ((Row.seg X2.out.2).q (Q39.trans q)) (Row.len X2.out.2) ((Row.seg X3.out.2).q (Q49.trans q)) (Row.len X3.out.2) (hp1 y1n (Row.len X2.out.2))); have SM2 := hid (fun u (q : Q w9 u) => same_t ⟨y3a, y3n, y3c⟩ ⟨y4a, y4n, y4c⟩ P2 u ((Row.seg X4.out.2).q (Q59.trans q)) (Row.len X4.out.2) ((Row.seg X5.out.2).q (Q69.trans q)) (Row.len X5.out.2) (hp2 y3n (Row.len X4.out.2))); have SM3 := hid (fun u (q : Q w9 u) => same_t ⟨y5a, y5n, y5c⟩ nilS ([]) u ((Row.seg X6.out.2).q (Q79.trans q)) (Row.len X6.out.2) (seg_nil _ _) rfl hp3); clear q9 Q89 Q79 Q69 Q59 Q49 Q39)
        | (go_at_call 26; refine (SM1.out _ (Q.refl _)).mono ?_; rintro e w10 ⟨rfl, q10⟩; have Q10 := hid q10; clear q10 SM1)
        | (go_at_call 26; refine (SM2.out _ Q10.out).mono ?_; rintro e w11 ⟨rfl, q11⟩; have Q11 := hid (Q10.out.trans q11); clear q11 SM2)
        | (go_at_call 26; refine (SM3.out _ Q11.out).mono ?_; rintro e w12 ⟨rfl, q12⟩; have Q12 := hid (Q11.out.trans q12); clear q12 SM3))
      go_ret
      exact ⟨rfl, QW9.out.trans Q12.out⟩
    · have hk0b : decide (k < 0) = false := decide_eq_false hk0
      have hk1 : 4611686018427387903 < k := by omega
      clear hk
      go_enter Try.func4, Try.ntmps4
      go_wp2_with (first
        | (go_at_call 11; refine HCP.out.mono ?_; rintro e w1 ⟨g, rfl, q1, o1, _⟩; have X1 := hid (And.intro (HQ0.out.trans q1) (And.intro o1.seg (blk_q q1 HB0.out))); clear q1 o1 HCP)
        | (go_at_call 20; refine (HFR.out w1 _ X1.out.2.1).mono ?_; rintro e w2 ⟨⟨y1a, y1n, y1c⟩, rfl, q2, r2, n2⟩; have X2 := hid (And.intro q2 r2); clear q2 r2 n2)
        | (go_at_call 21; refine (HRF.out w2 (HS.out.q (X1.out.1.trans X2.out.1))).mono ?_; rintro e w3 ⟨⟨y2a, y2n, y2c⟩, rfl, q3, r3, n3⟩; have X3 := hid (And.intro q3 r3); have hB3 := blk_q (X2.out.1.trans q3) X1.out.2.2; clear q3 r3 n3 HRF)
        | (refine wpList_load_row rfl 39 _ rfl w.heap.size rfl 39 #[.int .i64 c, .int .i64 b, .int .i64 l] (0, 0) _ hB3 Try.underlying39 rfl info39 ?_)
        | (go_at_call 22; refine (HPS.out w3).mono ?_; rintro e w4 ⟨⟨y3a, y3n, y3c⟩, rfl, q4, r4, n4⟩; have X4 := hid (And.intro q4 r4); have hB4 := blk_q q4 hB3; have f40 : w4.cell? ⟨w.heap.size, 0, none⟩ = some (.int .i64 c) := (by rw [cell_of_row w4 _ 0 _ 39 (0, 0) hB4]; rfl); have f41 : w4.cell? ⟨w.heap.size, 1, none⟩ = some (.int .i64 b) := (by rw [cell_of_row w4 _ 1 _ 39 (0, 0) hB4]; rfl); have f42 : w4.cell? ⟨w.heap.size, 2, none⟩ = some (.int .i64 l) := (by rw [cell_of_row w4 _ 2 _ 39 (0, 0) hB4]; rfl); clear q4 r4 n4 hB3)
        | (go_at_call 23; refine (HRS.out w4).mono ?_; rintro e w5 ⟨⟨y4a, y4n, y4c⟩, rfl, q5, r5⟩; have X5 := hid (And.intro q5 r5); clear q5 r5)
        | (go_at_call 24; refine (HGA.out w5).mono ?_; rintro e w6 ⟨⟨y5a, y5n, y5c⟩, rfl, q6, r6, n6⟩; have X6 := hid (And.intro q6 r6); clear q6 r6 n6)
        | (go_at_call 25; refine (HRP.out w6).mono ?_; rintro e w7 ⟨⟨y6a, y6n, y6c⟩, rfl, q7, s7, l7⟩; have X7 := hid q7; have HR78 := HR7.out w7 y6a y6n y6c l7 s7; have hl7 : (form k).length = y6n := l7; rw [← hl7, H7.out] at HR78; have HR79 := hid HR78; have HL7 := hid hl7; clear q7 s7 l7 HR78 hl7)
        | (go_at_call 21; (try rw [← HL7.out]); refine HR79.out.mono ?_; rintro e w8 ⟨⟨y7a, y7n, y7c⟩, rfl, q8, r8, n8⟩; have X8 := hid (And.intro q8 r8); clear q8 r8 n8)
        | (go_at_call 10; refine (HAW.out w8).mono ?_; rintro e w9 ⟨rfl, q9⟩; have QAW := hid q9; have Q89 := X8.out.1.trans q9; have Q79 := X7.out.trans Q89; have Q69 := X6.out.1.trans Q79; have Q59 := X5.out.1.trans Q69; have Q49 := X4.out.1.trans Q59; have Q39 := X3.out.1.trans Q49; have QW9 := hid ((X1.out.1.trans X2.out.1).trans Q39); have SM1 := hid (fun u (q : Q w9 u) => same_t ⟨y1a, y1n, y1c⟩ ⟨y2a, y2n, y2c⟩ P1 u ((Row.seg X2.out.2).q (Q39.trans q)) (Row.len X2.out.2) ((Row.seg X3.out.2).q (Q49.trans q)) (Row.len X3.out.2) (hp1 y1n (Row.len X2.out.2))); have SM2 := hid (fun u (q : Q w9 u) => same_t ⟨y3a, y3n, y3c⟩ ⟨y4a, y4n, y4c⟩ P2 u ((Row.seg X4.out.2).q (Q59.trans q)) (Row.len X4.out.2) ((Row.seg X5.out.2).q (Q69.trans q)) (Row.len X5.out.2) (hp2 y3n (Row.len X4.out.2))); have SM3 := hid (fun u (q : Q w9 u) => same_t ⟨y5a, y5n, y5c⟩ nilS ([]) u ((Row.seg X6.out.2).q (Q79.trans q)) (Row.len X6.out.2) (seg_nil _ _) rfl hp3); clear q9 Q89 Q79 Q69 Q59 Q49 Q39)
        | (go_at_call 26; refine (SM1.out _ (Q.refl _)).mono ?_; rintro e w10 ⟨rfl, q10⟩; have Q10 := hid q10; clear q10 SM1)
        | (go_at_call 26; refine (SM2.out _ Q10.out).mono ?_; rintro e w11 ⟨rfl, q11⟩; have Q11 := hid (Q10.out.trans q11); clear q11 SM2)
        | (go_at_call 26; refine (SM3.out _ Q11.out).mono ?_; rintro e w12 ⟨rfl, q12⟩; have Q12 := hid (Q11.out.trans q12); clear q12 SM3))
      go_ret
      exact ⟨rfl, QW9.out.trans Q12.out⟩
end Go.Proofs.Ytdlefmlienfjhaa
