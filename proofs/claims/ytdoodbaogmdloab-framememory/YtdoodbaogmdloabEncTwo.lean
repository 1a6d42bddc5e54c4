/-
  What frame.Encode does, at every frame: a contract that the statements' walks use.
-/
import Derived.Test.YtdoodbaogmdloabEnc
namespace Go.Proofs.Ytdoodbaogmdloab
open Go.RowKit
set_option linter.unusedVariables false
set_option maxRecDepth 20000

set_option maxHeartbeats 4000000 in
theorem encode_8 (f : Fr) (d c s : Sv) (w : World) (hk : f.kind = 8) (h : Holds w f d c s) (hd : d.n ≤ 16384) (hc : c.n ≤ 140737488355328) (he : chk f = 0) :
    Calls Try.prog 14 #[fv f d c s] w fun e w' => ∃ r : Sv, e = .returned (.tuple #[.slice r.a r.n r.c, .int .i64 0]) ∧ Made w w' r (shead f ++ (form f.data.length ++ f.data)) := by
    have HH := hid h
    have HE := hid he
    have HK := hid hk
    have HLN := hid (show (shead f).length + (form f.data.length ++ f.data).length ≤ 1000000 by
      have h1 : (shead f).length ≤ 24 := by
        unfold shead
        split
        · exact forms_len _
        · exact Nat.le_trans (forms_len _) (by simp)
      have h2 := form_len8 f.data.length
      have h3 := h.dl
      simp only [List.length_append]; omega)
    clear h he hk
    go_enter Try.func14, Try.ntmps14
    go_wp2_with fail
    refine (check_any f d c s _ (HH.out.q ((Q.refl w).alloc _)) (by omega) hc).mono ?_
    rintro e w1 ⟨rfl, hq⟩
    rw [HE.out]
    have B1 : Box w1 34 w.heap.size f d c s := Box.q (w := w.alloc _) (heap_alloc_new w _) hq
    have HQ := hid (((Q.refl w).alloc _).trans hq)
    have c0 := B1.c0
    rw [HK.out] at c0
    have B1' := hid B1
    clear hq B1
    go_wp2
    have B1 := B1'.out
    go_region_held3 (fun w' => w'.cell? ⟨w.heap.size, 0, none⟩ = some (.int .i64 f.kind) ∧ w'.cell? ⟨w.heap.size, 1, none⟩ = some (.int .i64 f.id) ∧ w'.cell? ⟨w.heap.size, 2, none⟩ = some (.int .i64 f.pl) ∧ w'.cell? ⟨w.heap.size, 3, none⟩ = some (.int .i64 f.num) ∧ w'.cell? ⟨w.heap.size, 4, none⟩ = some (.int .i64 f.code) ∧ w'.cell? ⟨w.heap.size, 5, none⟩ = some (.bool f.fin) ∧ w'.cell? ⟨w.heap.size, 6, none⟩ = some (.slice d.a d.n d.c) ∧ w'.cell? ⟨w.heap.size, 7, none⟩ = some (.slice c.a c.n c.c) ∧ w'.cell? ⟨w.heap.size, 8, none⟩ = some (.slice s.a s.n s.c) ∧ w'.cell? ⟨w.heap.size, 9, none⟩ = some (.int .i64 f.dl) ∧ w'.cell? ⟨w.heap.size, 10, none⟩ = some (.int .i64 f.e0) ∧ w'.cell? ⟨w.heap.size, 11, none⟩ = some (.int .i64 f.e1) ∧ w'.cell? ⟨w.heap.size, 12, none⟩ = some (.int .i64 f.e2))
      (first | exact Box.all (B5.q (by repeat (first | exact Q.refl _ | apply Q.drewN | apply Q.drew | apply Q.alloc))) | exact Box.all (B4.q (by repeat (first | exact Q.refl _ | apply Q.drewN | apply Q.drew | apply Q.alloc))) | exact Box.all (B3.q (by repeat (first | exact Q.refl _ | apply Q.drewN | apply Q.drew | apply Q.alloc))) | exact Box.all (B2.q (by repeat (first | exact Q.refl _ | apply Q.drewN | apply Q.drew | apply Q.alloc))) | exact Box.all (B1.q (by repeat (first | exact Q.refl _ | apply Q.drewN | apply Q.drew | apply Q.alloc))))
      (first
        | (go_at_call 29; refine (streamHead_any f d c s _).mono ?_; rintro e w2 ⟨r1, rfl, m1⟩; have M1 := hid (show Made w1 w2 r1 (shead f) from ⟨Q.trans (by repeat (first | exact Q.refl _ | apply Q.drewN | apply Q.drew)) m1.1, m1.2.1, m1.2.2⟩); clear m1; have B2 := B1.q M1.out.1)
        | (go_at_call 30; refine (withLength_any d f.data _ (HH.out.ds.q (HQ.out.trans M1.out.1)) HH.out.dl (by omega)).mono ?_; rintro e w3 ⟨r2, rfl, m2⟩; have M2 := hid (show Made w2 w3 r2 (form f.data.length ++ f.data) from m2); clear m2; have B3 := B2.q M2.out.1)
        | (go_at_call 26; refine (join2_at r1 r2 _ _ w3 _ (by repeat (first | exact Q.refl _ | apply Q.drewN | apply Q.drew)) (M1.out.got.q M2.out.1) M2.out.got HLN.out).mono ?_; rintro e w4 ⟨r3, rfl, m3⟩; have M3 := hid m3; clear m3; have B4 := B3.q M3.out.1))
    have HX := hid (show Made w w4 r3 (shead f ++ (form f.data.length ++ f.data)) from ⟨HQ.out.trans (M1.out.1.trans (M2.out.1.trans M3.out.1)), M3.out.2.1, M3.out.2.2.mono (HQ.out.trans (M1.out.1.trans M2.out.1)).size⟩)
    clear B1 B2 B3 B4 B1' M1 M2 M3
    go_wp2
    go_ret2
    exact ⟨r3, rfl, HX.out⟩

set_option maxHeartbeats 4000000 in
theorem encode_r (f : Fr) (k : Int) (d c s : Sv) (w : World) (hk : f.kind = k) (h0 : (k == 0) = false) (h2 : (k == 2) = false) (h3 : (k == 3) = false) (h8 : (k == 8) = false) (h : Holds w f d c s) (hd : d.n ≤ 16384) (hc : c.n ≤ 140737488355328) (hc24 : f.kind = 24 → c.n ≤ 20) (he : chk f = 0) (HLN : Hid ((forms [f.kind]).length + (forms (leads f)).length + (last f).length ≤ 1000000)) :
    Calls Try.prog 14 #[fv f d c s] w fun e w' => ∃ r : Sv, e = .returned (.tuple #[.slice r.a r.n r.c, .int .i64 0]) ∧ Made w w' r (forms [f.kind] ++ forms (leads f) ++ last f) := by
    have HH := hid h
    have HE := hid he
    have HK := hid hk
    have HC := hid hc24
    clear h he hk hc24
    go_enter Try.func14, Try.ntmps14
    go_wp2_with fail
    refine (check_any f d c s _ (HH.out.q ((Q.refl w).alloc _)) (by omega) hc).mono ?_
    rintro e w1 ⟨rfl, hq⟩
    rw [HE.out]
    have B1 : Box w1 34 w.heap.size f d c s := Box.q (w := w.alloc _) (heap_alloc_new w _) hq
    have HQ := hid (((Q.refl w).alloc _).trans hq)
    have c0 := B1.c0
    rw [HK.out] at c0
    have B1' := hid B1
    clear hq B1
    go_wp2
    have B1 := B1'.out
    go_region_held3 (fun w' => w'.cell? ⟨w.heap.size, 0, none⟩ = some (.int .i64 f.kind) ∧ w'.cell? ⟨w.heap.size, 1, none⟩ = some (.int .i64 f.id) ∧ w'.cell? ⟨w.heap.size, 2, none⟩ = some (.int .i64 f.pl) ∧ w'.cell? ⟨w.heap.size, 3, none⟩ = some (.int .i64 f.num) ∧ w'.cell? ⟨w.heap.size, 4, none⟩ = some (.int .i64 f.code) ∧ w'.cell? ⟨w.heap.size, 5, none⟩ = some (.bool f.fin) ∧ w'.cell? ⟨w.heap.size, 6, none⟩ = some (.slice d.a d.n d.c) ∧ w'.cell? ⟨w.heap.size, 7, none⟩ = some (.slice c.a c.n c.c) ∧ w'.cell? ⟨w.heap.size, 8, none⟩ = some (.slice s.a s.n s.c) ∧ w'.cell? ⟨w.heap.size, 9, none⟩ = some (.int .i64 f.dl) ∧ w'.cell? ⟨w.heap.size, 10, none⟩ = some (.int .i64 f.e0) ∧ w'.cell? ⟨w.heap.size, 11, none⟩ = some (.int .i64 f.e1) ∧ w'.cell? ⟨w.heap.size, 12, none⟩ = some (.int .i64 f.e2))
      (first | exact Box.all (B5.q (by repeat (first | exact Q.refl _ | apply Q.drewN | apply Q.drew | apply Q.alloc))) | exact Box.all (B4.q (by repeat (first | exact Q.refl _ | apply Q.drewN | apply Q.drew | apply Q.alloc))) | exact Box.all (B3.q (by repeat (first | exact Q.refl _ | apply Q.drewN | apply Q.drew | apply Q.alloc))) | exact Box.all (B2.q (by repeat (first | exact Q.refl _ | apply Q.drewN | apply Q.drew | apply Q.alloc))) | exact Box.all (B1.q (by repeat (first | exact Q.refl _ | apply Q.drewN | apply Q.drew | apply Q.alloc))))
      (first
        | (go_at_call 27; refine (nums1_at f.kind w1 _ (by repeat (first | exact Q.refl _ | apply Q.drewN | apply Q.drew))).mono ?_; rintro e w2 ⟨r1, rfl, m1⟩; have M1 := hid m1; clear m1; have B2 := B1.q M1.out.1)
        | (go_at_call 31; refine (leadingItems_any f d c s _).mono ?_; rintro e w3 ⟨r2, rfl, m2⟩; have M2 := hid (show Made w2 w3 r2 (forms (leads f)) from m2); clear m2; have B3 := B2.q M2.out.1)
        | (go_at_call 32; refine (lastItems_any f d c s _ (HH.out.q (HQ.out.trans (M1.out.1.trans M2.out.1))) hd HC.out).mono ?_; rintro e w4 ⟨r3, rfl, q3, m3⟩; have Q3 := hid (show Q w3 w4 from q3); have M3 := hid m3; clear q3 m3; have B4 := B3.q Q3.out)
        | (go_at_call 26; refine (join3_at r1 r2 r3 _ _ _ w4 _ (by repeat (first | exact Q.refl _ | apply Q.drewN | apply Q.drew)) ((M1.out.got.q M2.out.1).q Q3.out) (M2.out.got.q Q3.out) M3.out HLN.out).mono ?_; rintro e w5 ⟨r4, rfl, m4⟩; have M4 := hid m4; clear m4; have B5 := B4.q M4.out.1))
    have HX := hid (show Made w w5 r4 (forms [f.kind] ++ forms (leads f) ++ last f) from ⟨HQ.out.trans (M1.out.1.trans (M2.out.1.trans (Q3.out.trans M4.out.1))), M4.out.2.1, M4.out.2.2.mono (HQ.out.trans (M1.out.1.trans (M2.out.1.trans Q3.out))).size⟩)
    clear B1 B2 B3 B4 B5 B1' M1 M2 M3 M4 Q3
    go_wp2
    go_ret2
    exact ⟨r4, rfl, HX.out⟩

theorem lead_len (k : Int) : (lead k).length ≤ 3 := by
  rcases lead_cases k with e | e
  · rw [e]; simp
  · rcases e with e | e | e | e | e | e | e | e | e | e | e | e | e | e | e | e
    all_goals (rw [e]; decide)

theorem encode_any (f : Fr) (d c s : Sv) (w : World) (h : Holds w f d c s) (hd : d.n ≤ 140737488355328) (hc : c.n ≤ 140737488355328) :
    Calls Try.prog 14 #[fv f d c s] w fun e w' => ∃ r : Sv, e = .returned (.tuple #[.slice r.a r.n r.c, .int .i64 (chk f)]) ∧ Made w w' r (if chk f = 0 then enc f else []) := by
  by_cases he : chk f = 0
  · obtain ⟨ok1, ok2, ok3, ok4⟩ := chk_ok he
    have hd' : d.n ≤ 16384 := by rw [← h.dl]; exact ok2
    rw [he, if_pos rfl]
    unfold enc
    by_cases h0 : f.kind = 0
    · rw [if_pos h0]
      have hn : 1 ≤ f.num ∧ f.num ≤ 16384 := by
        unfold fieldsB at ok4; rw [if_pos h0] at ok4; simpa using ok4
      obtain ⟨n, hnn⟩ := Int.eq_ofNat_of_zero_le (show 0 ≤ f.num by omega)
      rw [hnn, Int.toNat_natCast]
      exact encode_0 f n d c s w h0 hnn (by omega) (by omega) h hd' hc he
    rw [if_neg h0]
    by_cases h2 : f.kind = 2 ∨ f.kind = 3
    · rw [if_pos h2]
      refine encode_2 f f.kind d c s w rfl h2 h hd' hc he ?_
      have hsp : spansB f.sp = true := by unfold fieldsB at ok4; rw [if_neg h0, if_pos h2] at ok4; exact ok4
      unfold spansB at hsp
      rw [Bool.and_eq_true, decide_eq_true_eq] at hsp
      have hm : (marks f).length ≤ 3 := by unfold marks; split <;> simp
      unfold ackN
      have hr : f.sp.reverse.length ≤ 64 := by simpa using hsp.1.2
      split
      · omega
      · rename_i t r hh
        rw [hh] at hr
        simp only [List.length_append, downs_len, List.length_cons, List.length_nil] at hr ⊢
        omega
    rw [if_neg h2]
    by_cases h8 : f.kind = 8
    · rw [if_pos h8]; exact encode_8 f d c s w h8 h hd' hc he
    rw [if_neg h8]
    refine encode_r f f.kind d c s w rfl (by simp [h0]) (by simp; omega) (by simp; omega) (by simp [h8]) h hd' hc ?_ he (hid ?_)
    · intro h24
      unfold fieldsB at ok4
      rw [if_neg h0, if_neg h2, if_neg (by omega), if_neg (by omega), if_neg (by omega), if_pos h24] at ok4
      simp only [decide_eq_true_eq] at ok4
      rw [← h.cl]; omega
    · have l1 := forms_len [f.kind]
      have l2 := forms_len (leads f)
      have l3 := lead_len f.kind
      have l4 : (last f).length ≤ 20000 := by
        have h8 := form_len8 f.data.length
        unfold last
        split
        · simp only [List.length_append]; omega
        split
        · rename_i h24
          unfold fieldsB at ok4
          rw [if_neg h0, if_neg h2, if_neg (by omega), if_neg (by omega), if_neg (by omega), if_pos h24] at ok4
          simp only [decide_eq_true_eq] at ok4
          simp only [List.length_append, List.length_cons, List.length_nil]; omega
        split
        · omega
        · simp
      have l5 : (leads f).length = (lead f.kind).length := by simp [leads]
      simp at l1
      omega
  · refine (encode_no f d c s w h hd hc he).mono ?_
    rintro e w' ⟨rfl, hq⟩
    rw [if_neg he]
    exact ⟨⟨none, 0, 0⟩, rfl, hq, sub_nil _ _ _, by intro b hb; cases hb⟩
end Go.Proofs.Ytdoodbaogmdloab
