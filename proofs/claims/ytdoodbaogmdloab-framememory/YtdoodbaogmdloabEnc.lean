/-
  What frame.Encode does: a contract that the statements' walks use.
-/
import Derived.Test.YtdoodbaogmdloabAck
import Derived.Deep.RegionHeld3
namespace Go.Proofs.Ytdoodbaogmdloab
open Go.RowKit
set_option linter.unusedVariables false
set_option maxRecDepth 20000

/-- A frame's bytes. -/
def enc (f : Fr) : List Int :=
  if f.kind = 0 then List.replicate f.num.toNat 0 else if f.kind = 2 ∨ f.kind = 3 then forms [f.kind] ++ forms (ackN f)
  else if f.kind = 8 then shead f ++ (form f.data.length ++ f.data) else forms [f.kind] ++ forms (leads f) ++ last f

/-- A slice that a call made, with these bytes. -/
def Made (w w' : World) (r : Sv) (zs : List Int) : Prop := Q w w' ∧ Row w' r zs ∧ New w.heap.size r

/-- What a right frame's parts are. -/
theorem chk_ok {f : Fr} (h : chk f = 0) : isK f.kind = true ∧ f.data.length ≤ 16384 ∧ numsB f = true ∧ fieldsB f = true := by
  unfold chk at h
  by_cases h1 : isK f.kind = false
  · rw [if_pos h1] at h; omega
  rw [if_neg h1] at h
  by_cases h2 : 16384 < f.data.length
  · rw [if_pos h2] at h; omega
  rw [if_neg h2] at h
  by_cases h3 : (numsB f && fieldsB f) = false
  · rw [if_pos h3] at h; omega
  · simp at h1 h3
    exact ⟨h1, by omega, h3.1, h3.2⟩

set_option maxHeartbeats 1000000 in
theorem encode_no (f : Fr) (d c s : Sv) (w : World) (h : Holds w f d c s) (hd : d.n ≤ 140737488355328) (hc : c.n ≤ 140737488355328) (he : chk f ≠ 0) :
    Calls Try.prog 14 #[fv f d c s] w fun e w' => e = .returned (.tuple #[.slice none 0 0, .int .i64 (chk f)]) ∧ Q w w' := by
  have HH := hid h
  have hb : (chk f != 0) = true := by simp [he]
  clear h he
  go_enter Try.func14, Try.ntmps14
  go_wp2_with fail
  refine (check_any f d c s _ (HH.out.q ((Q.refl w).alloc _)) hd hc).mono ?_
  rintro e w1 ⟨rfl, hq⟩
  have HQ := hid (((Q.refl w).alloc _).trans hq)
  clear hq
  go_wp2
  go_ret2
  exact ⟨rfl, HQ.out⟩

theorem made_new {w w' : World} {s : Nat} {v : Value} (hown : w'.ownsRow w.heap.size 5 1 v s ((List.replicate s 0).map (Value.int .u8))) (hgr : w.grownBy w' none) (hv : v = .slice (some ⟨w.heap.size, 0, none⟩) s s) : Made w w' ⟨some ⟨w.heap.size, 0, none⟩, s, s⟩ (List.replicate s 0) := by
  subst hv
  refine ⟨(Q.refl w).grown hgr, Own.row (base := w.heap.size) (a := some ⟨w.heap.size, 0, none⟩) hown (by simp), ?_⟩
  intro b hb; cases hb; exact Nat.le_refl _

set_option maxHeartbeats 400000 in
theorem encode_0 (f : Fr) (n : Nat) (d c s : Sv) (w : World) (hk : f.kind = 0) (hnum : f.num = n) (hn0 : 0 < n) (hn1 : n ≤ 16384) (h : Holds w f d c s) (hd : d.n ≤ 16384) (hc : c.n ≤ 140737488355328) (he : chk f = 0) :
    Calls Try.prog 14 #[fv f d c s] w fun e w' => ∃ r : Sv, e = .returned (.tuple #[.slice r.a r.n r.c, .int .i64 0]) ∧ Made w w' r (List.replicate n 0) := by
  obtain ⟨i0, hi, hz0, hz1, hz2⟩ := info_parts info5
  have HH := hid h
  have HE := hid he
  have HK := hid hk
  have HNUM := hid hnum
  clear h he hk hnum
  go_enter Try.func14, Try.ntmps14
  go_wp2_with fail
  refine (check_any f d c s _ (HH.out.q ((Q.refl w).alloc _)) (by omega) hc).mono ?_
  rintro e w1 ⟨rfl, hq⟩
  rw [HE.out]
  have hbx : Box w1 34 w.heap.size f d c s := Box.q (w := w.alloc _) (heap_alloc_new w _) hq
  have c0 := hbx.c0
  have c3 := hbx.c3
  rw [HK.out] at c0
  rw [HNUM.out] at c3
  have HQ := hid (((Q.refl w).alloc _).trans hq)
  clear hq hbx
  go_wp2_with (at_make; refine wpList_make_full _ rfl _ _ 22 rfl w1.heap.size 5 i0 (.int .u8 0) 1 Try.underlying22 hi hz0 hz1 .i64 .i64 _ _ n rfl rfl rfl rfl (by rw [hz2]; omega) (by unfold maxLen; omega) (Nat.le_refl _) ?_; intro w2 hown hgr)
  rw [made_zero] at hown
  have HM := hid (made_new hown hgr rfl)
  clear hown hgr
  go_ret2
  exact ⟨⟨some ⟨w1.heap.size, 0, none⟩, n, n⟩, rfl, HQ.out.trans HM.out.1, HM.out.2.1, HM.out.2.2.mono HQ.out.size⟩

/-- Its cells, one by one. -/
theorem Box.all {w : World} {t fb : Nat} {f : Fr} {d c s : Sv} (h : Box w t fb f d c s) :
    w.cell? ⟨fb, 0, none⟩ = some (.int .i64 f.kind) ∧ w.cell? ⟨fb, 1, none⟩ = some (.int .i64 f.id) ∧ w.cell? ⟨fb, 2, none⟩ = some (.int .i64 f.pl) ∧ w.cell? ⟨fb, 3, none⟩ = some (.int .i64 f.num) ∧ w.cell? ⟨fb, 4, none⟩ = some (.int .i64 f.code) ∧ w.cell? ⟨fb, 5, none⟩ = some (.bool f.fin) ∧ w.cell? ⟨fb, 6, none⟩ = some (.slice d.a d.n d.c) ∧ w.cell? ⟨fb, 7, none⟩ = some (.slice c.a c.n c.c) ∧ w.cell? ⟨fb, 8, none⟩ = some (.slice s.a s.n s.c) ∧ w.cell? ⟨fb, 9, none⟩ = some (.int .i64 f.dl) ∧ w.cell? ⟨fb, 10, none⟩ = some (.int .i64 f.e0) ∧ w.cell? ⟨fb, 11, none⟩ = some (.int .i64 f.e1) ∧ w.cell? ⟨fb, 12, none⟩ = some (.int .i64 f.e2) :=
  ⟨h.c0, h.c1, h.c2, h.c3, h.c4, h.c5, h.c6, h.c7, h.c8, h.c9, h.c10, h.c11, h.c12⟩

theorem Made.got {w w' : World} {r : Sv} {zs : List Int} (h : Made w w' r zs) : Got w' r zs := ⟨h.2.1.seg, h.2.1.len⟩
theorem Got.q {w w' : World} {r : Sv} {zs : List Int} (h : Got w r zs) (q : Q w w') : Got w' r zs := ⟨h.1.q q, h.2⟩

/-- numbers of one number, and join of two and three, in whatever world between. -/
theorem nums1_at (n : Int) (w1 u : World) (hq : Q (w1.alloc (.cells #[.int .i64 n] 3)) u) :
    Calls Try.prog 27 #[.slice (some ⟨w1.heap.size, 0, none⟩) 1 1] u fun e w' => ∃ r : Sv, e = .returned (.slice r.a r.n r.c) ∧ Made w1 w' r (forms [n]) := by
  have hq' : Q w1 u := ((Q.refl w1).alloc _).trans hq
  refine (numbers_any _ 1 1 [n] u rfl ((segN_new w1 [n]).q hq) (by omega)).mono ?_
  rintro e w' ⟨r, rfl, h1, h2, h3⟩
  exact ⟨r, rfl, hq'.trans h1, h2, h3.mono hq'.size⟩
theorem join2_at (p q : Sv) (x y : List Int) (w1 u : World) (hq : Q (w1.alloc (.cells #[.slice p.a p.n p.c, .slice q.a q.n q.c] 22)) u) (hx : Got w1 p x) (hy : Got w1 q y) (ht : x.length + y.length ≤ 1000000) :
    Calls Try.prog 26 #[.slice (some ⟨w1.heap.size, 0, none⟩) 2 2] u fun e w' => ∃ r : Sv, e = .returned (.slice r.a r.n r.c) ∧ Made w1 w' r (x ++ y) := by
  have hq' : Q w1 u := ((Q.refl w1).alloc _).trans hq
  refine (join_any w1.heap.size 2 2 (pick3 p q q) (pick3 x y y) u ?_ ?_ (by omega) ?_).mono ?_
  · intro j hj
    rw [hq.cell (by show w1.heap.size < _; simp)]
    rw [cell_of_row _ w1.heap.size j _ 22 (0, 0) (heap_alloc_new w1 _)]
    obtain rfl | rfl : j = 0 ∨ j = 1 := by omega
    all_goals rfl
  · intro j hj
    obtain rfl | rfl : j = 0 ∨ j = 1 := by omega
    · exact ⟨hx.1.q hq', hx.2⟩
    · exact ⟨hy.1.q hq', hy.2⟩
  · show ([] ++ x ++ y).length ≤ 1000000
    simp; exact ht
  · rintro e w' ⟨r, rfl, h1, h2, h3⟩
    exact ⟨r, rfl, hq'.trans h1, h2, h3.mono hq'.size⟩
theorem join3_at (p q s : Sv) (x y z : List Int) (w1 u : World) (hq : Q (w1.alloc (.cells #[.slice p.a p.n p.c, .slice q.a q.n q.c, .slice s.a s.n s.c] 22)) u) (hx : Got w1 p x) (hy : Got w1 q y) (hz : Got w1 s z) (ht : x.length + y.length + z.length ≤ 1000000) :
    Calls Try.prog 26 #[.slice (some ⟨w1.heap.size, 0, none⟩) 3 3] u fun e w' => ∃ r : Sv, e = .returned (.slice r.a r.n r.c) ∧ Made w1 w' r (x ++ y ++ z) := by
  have hq' : Q w1 u := ((Q.refl w1).alloc _).trans hq
  refine (join_any w1.heap.size 3 3 (pick3 p q s) (pick3 x y z) u ?_ ?_ (by omega) ?_).mono ?_
  · intro j hj
    rw [hq.cell (by show w1.heap.size < _; simp)]
    rw [cell_of_row _ w1.heap.size j _ 22 (0, 0) (heap_alloc_new w1 _)]
    obtain rfl | rfl | rfl : j = 0 ∨ j = 1 ∨ j = 2 := by omega
    all_goals rfl
  · intro j hj
    obtain rfl | rfl | rfl : j = 0 ∨ j = 1 ∨ j = 2 := by omega
    · exact ⟨hx.1.q hq', hx.2⟩
    · exact ⟨hy.1.q hq', hy.2⟩
    · exact ⟨hz.1.q hq', hz.2⟩
  · show ([] ++ x ++ y ++ z).length ≤ 1000000
    simp; omega
  · rintro e w' ⟨r, rfl, h1, h2, h3⟩
    exact ⟨r, rfl, hq'.trans h1, h2, h3.mono hq'.size⟩

theorem forms_app (x y : List Int) : forms (x ++ y) = forms x ++ forms y := by simp [forms]

set_option maxHeartbeats 4000000 in
theorem encode_2 (f : Fr) (k : Int) (d c s : Sv) (w : World) (hk : f.kind = k) (hk2 : k = 2 ∨ k = 3) (h : Holds w f d c s) (hd : d.n ≤ 16384) (hc : c.n ≤ 140737488355328) (he : chk f = 0) (hlen : (ackN f).length ≤ 1000) :
    Calls Try.prog 14 #[fv f d c s] w fun e w' => ∃ r : Sv, e = .returned (.tuple #[.slice r.a r.n r.c, .int .i64 0]) ∧ Made w w' r (forms [k] ++ forms (ackN f)) := by
  have HH := hid h
  have HE := hid he
  have HK := hid hk
  have HSP := hid (show spansB f.sp = true from by
    have := (chk_ok he).2.2.2
    unfold fieldsB at this
    rw [hk, if_neg (by omega), if_pos hk2] at this
    exact this)
  have HK2 := hid (show f.kind = 2 ∨ f.kind = 3 by rw [hk]; exact hk2)
  have HLN := hid (show (forms [k]).length + (forms (ackN f)).length ≤ 1000000 by have := forms_len [k]; have := forms_len (ackN f); simp at *; omega)
  clear h he hk hlen
  rcases hk2 with rfl | rfl
  all_goals
    go_enter Try.func14, Try.ntmps14
    go_wp2_with fail
    refine (check_any f d c s _ (HH.out.q ((Q.refl w).alloc _)) (by omega) hc).mono ?_
    rintro e w1 ⟨rfl, hq⟩
    rw [HE.out]
    have B1 : Box w1 34 w.heap.size f d c s := Box.q (w := w.alloc _) (heap_alloc_new w _) hq
    have HQ := hid (((Q.refl w).alloc _).trans hq)
    have c0 := B1.c0
    rw [HK.out] at c0
    have B1' := hid B1
    clear hq B1
    go_wp2
    have B1 := B1'.out
    go_region_held3 (fun w' => w'.cell? ⟨w.heap.size, 0, none⟩ = some (.int .i64 f.kind) ∧ w'.cell? ⟨w.heap.size, 1, none⟩ = some (.int .i64 f.id) ∧ w'.cell? ⟨w.heap.size, 2, none⟩ = some (.int .i64 f.pl) ∧ w'.cell? ⟨w.heap.size, 3, none⟩ = some (.int .i64 f.num) ∧ w'.cell? ⟨w.heap.size, 4, none⟩ = some (.int .i64 f.code) ∧ w'.cell? ⟨w.heap.size, 5, none⟩ = some (.bool f.fin) ∧ w'.cell? ⟨w.heap.size, 6, none⟩ = some (.slice d.a d.n d.c) ∧ w'.cell? ⟨w.heap.size, 7, none⟩ = some (.slice c.a c.n c.c) ∧ w'.cell? ⟨w.heap.size, 8, none⟩ = some (.slice s.a s.n s.c) ∧ w'.cell? ⟨w.heap.size, 9, none⟩ = some (.int .i64 f.dl) ∧ w'.cell? ⟨w.heap.size, 10, none⟩ = some (.int .i64 f.e0) ∧ w'.cell? ⟨w.heap.size, 11, none⟩ = some (.int .i64 f.e1) ∧ w'.cell? ⟨w.heap.size, 12, none⟩ = some (.int .i64 f.e2))
      (first | exact Box.all (B4.q (by repeat (first | exact Q.refl _ | apply Q.drewN | apply Q.drew | apply Q.alloc))) | exact Box.all (B3.q (by repeat (first | exact Q.refl _ | apply Q.drewN | apply Q.drew | apply Q.alloc))) | exact Box.all (B2.q (by repeat (first | exact Q.refl _ | apply Q.drewN | apply Q.drew | apply Q.alloc))) | exact Box.all (B1.q (by repeat (first | exact Q.refl _ | apply Q.drewN | apply Q.drew | apply Q.alloc))))
      (first
        | (go_at_call 27; refine (nums1_at f.kind w1 _ (by repeat (first | exact Q.refl _ | apply Q.drewN | apply Q.drew))).mono ?_; rintro e w2 ⟨r1, rfl, m1⟩; have B2 := B1.q m1.1)
        | (go_at_call 28; refine (ackItems_any f d c s w2 (HH.out.q (HQ.out.trans m1.1)) HK2.out HSP.out).mono ?_; rintro e w3 ⟨r2, rfl, m2⟩; have B3 := B2.q m2.1)
        | (go_at_call 26; refine (join2_at r1 r2 (forms [f.kind]) (forms (ackN f)) w3 _ (by repeat (first | exact Q.refl _ | apply Q.drewN | apply Q.drew)) (m1.got.q m2.1) (Made.got m2) (by rw [HK.out]; exact HLN.out)).mono ?_; rintro e w4 ⟨r3, rfl, m3⟩; have B4 := B3.q m3.1))
    have HX := hid (show Made w w4 r3 (forms [f.kind] ++ forms (ackN f)) from ⟨HQ.out.trans (m1.1.trans (m2.1.trans m3.1)), m3.2.1, m3.2.2.mono (HQ.out.trans (m1.1.trans m2.1)).size⟩)
    clear m1 m2 m3 B1 B2 B3 B4 B1'
    go_wp2
    go_ret2
    exact ⟨r3, rfl, by rw [← HK.out]; exact HX.out⟩
end Go.Proofs.Ytdoodbaogmdloab
