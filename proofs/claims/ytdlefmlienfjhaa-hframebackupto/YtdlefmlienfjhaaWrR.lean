/-
  What the document's Frame and Settings answer: contracts that the statements' walks use.
-/
import Derived.Test.YtdlefmlienfjhaaCct
import Derived.Test.YtdlefmlienfjhaaRef
import Derived.Test.YtdlefmlienfjhaaWrM
namespace Go.Proofs.Ytdlefmlienfjhaa
open Go.RowKit
set_option linter.unusedVariables false
set_option maxRecDepth 100000

theorem rput_any (n : Int) (w : World) : Calls Try.prog 25 #[.int .i64 n] w fun e w' => ∃ y : Sv, e = .returned (.slice y.a y.n y.c) ∧ Q w w' ∧ Seg w' y.a (form n) ∧ (form n).length = y.n := by
  by_cases h : n < 0 ∨ 4611686018427387903 < n
  · refine (rput_no n w h).mono ?_
    rintro e w' ⟨g, rfl, q⟩
    have hf := form_nil h
    exact ⟨⟨some ⟨g, 0, none⟩, 0, 0⟩, rfl, q, by rw [hf]; exact seg_nil _ _, by rw [hf]; rfl⟩
  · refine (rput_ok n w (sz n) (by omega) (by omega) (hid rfl)).mono ?_
    rintro e w' ⟨g, rfl, q, o⟩
    exact ⟨⟨some ⟨g, 0, none⟩, sz n, sz n⟩, rfl, q, o.seg, form_length n⟩
theorem join_three (W : World) (x y z : Sv) (X Y Z : List Int) (hx : Seg W x.a X ∧ X.length = x.n) (hy : Seg W y.a Y ∧ Y.length = y.n) (hz : Seg W z.a Z ∧ Z.length = z.n) (hb : X.length + Y.length + Z.length ≤ 140737488355328) :
    Calls Try.prog 29 #[.slice (some ⟨W.heap.size, 0, none⟩) 3 3] (W.alloc (.cells #[.slice x.a x.n x.c, .slice y.a y.n y.c, .slice z.a z.n z.c] 30)) fun e w' => ∃ r : Sv, e = .returned (.slice r.a r.n r.c) ∧ Q W w' ∧ Row w' r (X ++ (Y ++ Z)) ∧ New W.heap.size r := by
  have hb0 := heap_alloc_new W (.cells #[.slice x.a x.n x.c, .slice y.a y.n y.c, .slice z.a z.n z.c] 30)
  have hq2 : Q W (W.alloc (.cells #[.slice x.a x.n x.c, .slice y.a y.n y.c, .slice z.a z.n z.c] 30)) := (Q.refl W).alloc _
  have hc : cat (thr X Y Z) 3 = X ++ (Y ++ Z) := by simp [cat, thr]
  refine (joinB W.heap.size 3 3 (thr x y z) (thr X Y Z) _ (fun j hj => ?_) (fun j hj => ?_) (by omega) (by rw [hc, List.length_append, List.length_append]; omega)).mono ?_
  · rw [cell_of_row _ _ _ _ 30 (0, 0) hb0]
    rcases (show j = 0 ∨ j = 1 ∨ j = 2 by omega) with rfl | rfl | rfl <;> rfl
  · rcases (show j = 0 ∨ j = 1 ∨ j = 2 by omega) with rfl | rfl | rfl
    · exact ⟨hx.1.q hq2, hx.2⟩
    · exact ⟨hy.1.q hq2, hy.2⟩
    · exact ⟨hz.1.q hq2, hz.2⟩
  · rintro e w' ⟨r, rfl, q, rr, nw⟩
    rw [hc] at rr
    exact ⟨r, rfl, hq2.trans q, rr, nw.mono hq2.size⟩
theorem join_two (W : World) (x y : Sv) (X Y : List Int) (hx : Seg W x.a X ∧ X.length = x.n) (hy : Seg W y.a Y ∧ Y.length = y.n) (hb : X.length + Y.length ≤ 140737488355328) :
    Calls Try.prog 29 #[.slice (some ⟨W.heap.size, 0, none⟩) 2 2] (W.alloc (.cells #[.slice x.a x.n x.c, .slice y.a y.n y.c] 30)) fun e w' => ∃ r : Sv, e = .returned (.slice r.a r.n r.c) ∧ Q W w' ∧ Row w' r (X ++ Y) ∧ New W.heap.size r := by
  have hb0 := heap_alloc_new W (.cells #[.slice x.a x.n x.c, .slice y.a y.n y.c] 30)
  have hq2 : Q W (W.alloc (.cells #[.slice x.a x.n x.c, .slice y.a y.n y.c] 30)) := (Q.refl W).alloc _
  have hc : cat (thr X Y []) 2 = X ++ Y := by simp [cat, thr]
  refine (joinB W.heap.size 2 2 (thr x y nilS) (thr X Y []) _ (fun j hj => ?_) (fun j hj => ?_) (by omega) (by rw [hc, List.length_append]; omega)).mono ?_
  · rw [cell_of_row _ _ _ _ 30 (0, 0) hb0]
    rcases (show j = 0 ∨ j = 1 by omega) with rfl | rfl <;> rfl
  · rcases (show j = 0 ∨ j = 1 by omega) with rfl | rfl
    · exact ⟨hx.1.q hq2, hx.2⟩
    · exact ⟨hy.1.q hq2, hy.2⟩
  · rintro e w' ⟨r, rfl, q, rr, nw⟩
    rw [hc] at rr
    exact ⟨r, rfl, hq2.trans q, rr, nw.mono hq2.size⟩
set_option maxHeartbeats 8000000 in
theorem rframe_any (k : Int) (a : Option Addr) (n c : Nat) (ps : List Int) (w : World) (hl : ps.length = n) (hn : n ≤ 140737488355328) (hs : Seg w a ps) :
    Calls Try.prog 21 #[.int .i64 k, .slice a n c] w fun e w' => ∃ y : Sv, e = .returned (.tuple #[.slice y.a y.n y.c, .int .i64 (frE k n)]) ∧ Q w w' ∧ Row w' y (frB k ps) ∧ New w.heap.size y := by
  have HL := hid hl
  have HS := hid hs
  have hB : frB k ps = if frE k n = 0 then form k ++ (form n ++ ps) else [] := by unfold frB; rw [hl]
  rw [hB]
  clear hl hs hB
  by_cases hk : okN k
  · have hk0 : ¬ k < 0 := by omega
    have hk0b : decide (k < 0) = false := decide_eq_false hk0
    have hk1 : ¬ 4611686018427387903 < k := by omega
    by_cases hb : 1048576 < n
    · have hE : frE k n = 52 := by unfold frE; rw [if_neg (fun x => x hk), if_pos hb]
      rw [hE, if_neg (by decide)]
      have hbi : (1048576 : Int) < (n : Int) := by omega
      clear hE hk
      go_enter Try.func21, Try.ntmps21
      go_wp2
      go_ret2
      exact ⟨nilS, rfl, Q.refl _, sub_nil _ _ _, new_nil _⟩
    · have hE : frE k n = 0 := by unfold frE; rw [if_neg (fun x => x hk), if_neg hb]
      rw [hE, if_pos rfl]
      have hbi : ¬ (1048576 : Int) < (n : Int) := by omega
      have hf1 : (form k).length ≤ 8 := by rw [form_length]; exact sz_le k
      have hf2 : (form (n : Int)).length ≤ 8 := by rw [form_length]; exact sz_le _
      have P1 := hid (rput_any k w)
      have P2 := hid (fun u => rput_any (n : Int) u)
      clear hE hk
      go_enter Try.func21, Try.ntmps21
      go_wp2_with (first
        | (go_at_call 25; refine P1.out.mono ?_; rintro e w2 ⟨⟨xa, xn, xc⟩, rfl, q2, s2, l2⟩; have X2 := hid (And.intro q2 (And.intro s2 l2)); clear q2 s2 l2 P1)
        | (go_at_call 25; refine (P2.out _).mono ?_; rintro e w3 ⟨⟨ya, yn, yc⟩, rfl, q3, s3, l3⟩; have X3 := hid (And.intro q3 (And.intro s3 l3)); have HJ := hid (join_three w3 ⟨xa, xn, xc⟩ ⟨ya, yn, yc⟩ ⟨a, n, c⟩ (form k) (form (n : Int)) ps ⟨X2.out.2.1.q q3, X2.out.2.2⟩ ⟨s3, l3⟩ ⟨(HS.out.q X2.out.1).q q3, HL.out⟩ (by rw [HL.out]; omega)); clear q3 s3 l3)
        | (go_at_call 29; refine HJ.out.mono ?_; rintro e w4 ⟨⟨za, zn, zc⟩, rfl, q4, r4, n4⟩; have X4 := hid (And.intro ((X2.out.1.trans X3.out.1).trans q4) (And.intro r4 (n4.mono (X2.out.1.trans X3.out.1).size))); clear q4 r4 n4))
      go_ret2
      exact ⟨⟨za, zn, zc⟩, rfl, X4.out⟩
  · have hE : frE k n = 10 := by unfold frE; rw [if_pos hk]
    rw [hE, if_neg (by decide)]
    clear hE
    by_cases hk0 : k < 0
    · go_enter Try.func21, Try.ntmps21
      go_wp2
      go_ret2
      exact ⟨nilS, rfl, Q.refl _, sub_nil _ _ _, new_nil _⟩
    · have hk0b : decide (k < 0) = false := decide_eq_false hk0
      have hk1 : 4611686018427387903 < k := by omega
      clear hk
      go_enter Try.func21, Try.ntmps21
      go_wp2
      go_ret2
      exact ⟨nilS, rfl, Q.refl _, sub_nil _ _ _, new_nil _⟩
theorem seg_lit1 (w : World) (x : Int) : Seg (w.alloc (.cells #[.int .u8 x] 5)) (some ⟨w.heap.size, 0, none⟩) [x] := by
  intro _
  refine ⟨w.heap.size, 0, rfl, fun i hi => ?_⟩
  rw [cell_of_row _ _ _ _ 5 (0, 0) (heap_alloc_new w _)]
  rcases (show i = 0 by simp at hi; omega) with rfl
  rfl
end Go.Proofs.Ytdlefmlienfjhaa
