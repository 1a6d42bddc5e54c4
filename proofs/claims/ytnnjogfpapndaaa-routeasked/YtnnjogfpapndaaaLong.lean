/-
  What a reading's long and header do: contracts that the statements' walks use.
-/
import Derived.Test.YtnnjogfpapndaaaFill
namespace Go.Proofs.Ytnnjogfpapndaaa
open Go.RowKit
set_option linter.unusedVariables false
set_option maxRecDepth 20000

theorem Box.all {w : World} {ty hb : Nat} {h : Hd} {d s t v : Sv} (x : Box w ty hb h d s t v) : w.cell? ⟨hb, 0, none⟩ = some (.int .i64 h.kind) ∧ w.cell? ⟨hb, 1, none⟩ = some (.int .i64 h.ver) ∧ w.cell? ⟨hb, 2, none⟩ = some (.slice d.a d.n d.c) ∧ w.cell? ⟨hb, 3, none⟩ = some (.slice s.a s.n s.c) ∧ w.cell? ⟨hb, 4, none⟩ = some (.slice t.a t.n t.c) ∧ w.cell? ⟨hb, 5, none⟩ = some (.slice v.a v.n v.c) ∧ w.cell? ⟨hb, 6, none⟩ = some (.int .i64 h.len) := ⟨x.c0, x.c1, x.c2, x.c3, x.c4, x.c5, x.c6⟩
/-- A header that a call made. -/
def HdV (B : Nat) (h : Hd) (w' : World) (v : Value) : Prop := ∃ d s t vs, v = hv h d s t vs ∧ Holds B w' h d s t vs
theorem and64 (x : Int) (h0 : 0 ≤ x) (h1 : x < 256) : bits .and .i64 x 64 = x / 64 % 2 * 64 := by
  obtain ⟨m, rfl⟩ := Int.eq_ofNat_of_zero_le h0
  rw [show (64 : Int) = ((64 : Nat) : Int) from rfl, i64_and_nat m 64 (by omega) (by omega)]
  have : ∀ m, m < 256 → m &&& 64 = m / 64 % 2 * 64 := by decide
  rw [this m (by omega)]; omega
theorem and128 (x : Int) (h0 : 0 ≤ x) (h1 : x < 256) : bits .and .i64 x 128 = x / 128 * 128 := by
  obtain ⟨m, rfl⟩ := Int.eq_ofNat_of_zero_le h0
  rw [show (128 : Int) = ((128 : Nat) : Int) from rfl, i64_and_nat m 128 (by omega) (by omega)]
  have : ∀ m, m < 256 → m &&& 128 = m / 128 * 128 := by decide
  rw [this m (by omega)]; omega
theorem and48 (x : Int) (h0 : 0 ≤ x) (h1 : x < 256) : bits .and .i64 x 48 = x / 16 % 4 * 16 := by
  obtain ⟨m, rfl⟩ := Int.eq_ofNat_of_zero_le h0
  rw [show (48 : Int) = ((48 : Nat) : Int) from rfl, i64_and_nat m 48 (by omega) (by omega)]
  have : ∀ m, m < 256 → m &&& 48 = m / 16 % 4 * 16 := by decide
  rw [this m (by omega)]; omega

section
variable (rk rb g n : Nat) (zs : List Int) (cid p : Int) (w : World)
set_option maxHeartbeats 8000000 in
theorem long_at (first : Int) (hf0 : 0 ≤ first) (hf1 : first < 256) (h : Rg w rk rb g n zs cid p) : Calls Try.prog 88 #[.pointer (some ⟨rk, 0, none⟩), .int .i64 first] w fun e w' => Ans w rk rb g n zs cid (HdV w.heap.size) (longO zs first p) e w' := by
  have HH := hid h
  have hrk := h.lt
  have hrb := h.rdr.lt
  have hg := lt_of_block h.row
  clear h
  go_enter Try.func88, Try.ntmps88
  go_wp2_with fail
  generalize hw1 : World.alloc w _ = w1
  have q1 : Q w w1 := by rw [← hw1]; exact (Q.refl w).alloc _
  have b1 : Box w1 80 w.heap.size zh nilS nilS nilS nilS := by rw [← hw1]; exact heap_alloc_new w _
  have s1 : w1.heap.size = w.heap.size + 1 := by rw [← hw1]; simp
  clear hw1
  have S1 := hid s1
  have Q1 := hid q1
  have B1 := hid b1
  have R1 := hid (HH.out.q q1)
  clear q1 b1 s1
  refine (version_at rk rb g n zs cid p w1 R1.out).mono ?_
  rintro e w2 ⟨hk, ⟨ve, q2, vv, ho, rfl, rfl, hr⟩ | ⟨hs, rfl⟩⟩
  rotate_left
  · have this : (longO zs first p).stop ∧ (longO zs first p).ends = (verO zs p).ends := Out.bind_stop hs _
    exact ⟨rfl, (Keep.ofQ Q1.out).trans hk, .inr ⟨this.1, by rw [this.2]⟩⟩
  have HO2 := hid (show longO zs first p = (idO zs q2).bind fun d q2 => (idO zs q2).bind fun s q3 =>
    if ve = 0 then (versO zs q3).bind fun vs q4 => .ok ⟨5, ve, d, s, [], vs, 0⟩ q4
    else if ve = 1 then (if first / 64 % 2 = 0 then .bad 62 else (fillO zs (1 + first / 16 % 4) q3).bind fun tl q4 => .ok ⟨1 + first / 16 % 4, ve, d, s, tl.1, [], tl.2⟩ q4)
    else .ok ⟨7, ve, d, s, [], [], 0⟩ q3 from by unfold longO; rw [ho]; rfl)
  have K2 := hid (show Keep (fun k => k = rb) w w2 from (Keep.ofQ Q1.out).trans hk)
  have S2 := hid (show w.heap.size + 1 ≤ w2.heap.size from by have := hk.size; have := S1.out; omega)
  have R2 := hid hr
  have B2 := hid (B1.out.keep hk (by omega))
  clear hk ho hr B1 R1
  go_wp2_with fail
  refine (id_at rk rb g n zs cid q2 w2 R2.out).mono ?_
  rintro e w3 ⟨hk, ⟨dl, q3, vv, ho, rfl, ⟨⟨da, dn, dc⟩, rfl, hrow, hnew⟩, hr⟩ | ⟨hs, rfl⟩⟩
  rotate_left
  · have := Out.bind_stop hs (fun d q2 => (idO zs q2).bind fun s q3 =>
      if ve = 0 then (versO zs q3).bind fun vs q4 => Out.ok (⟨5, ve, d, s, [], vs, 0⟩ : Hd) q4
      else if ve = 1 then (if first / 64 % 2 = 0 then .bad 62 else (fillO zs (1 + first / 16 % 4) q3).bind fun tl q4 => .ok ⟨1 + first / 16 % 4, ve, d, s, tl.1, [], tl.2⟩ q4)
      else .ok ⟨7, ve, d, s, [], [], 0⟩ q3)
    exact ⟨rfl, K2.out.trans hk, .inr (by rw [HO2.out]; exact ⟨this.1, by rw [this.2]⟩)⟩
  have HO3 := hid (show longO zs first p = (idO zs q3).bind fun s q3 =>
    if ve = 0 then (versO zs q3).bind fun vs q4 => .ok ⟨5, ve, dl, s, [], vs, 0⟩ q4
    else if ve = 1 then (if first / 64 % 2 = 0 then .bad 62 else (fillO zs (1 + first / 16 % 4) q3).bind fun tl q4 => .ok ⟨1 + first / 16 % 4, ve, dl, s, tl.1, [], tl.2⟩ q4)
    else .ok ⟨7, ve, dl, s, [], [], 0⟩ q3 from by rw [HO2.out, ho]; rfl)
  have K3 := hid (K2.out.trans hk)
  have S3 := hid (show w.heap.size + 1 ≤ w3.heap.size from by have := hk.size; have := S2.out; omega)
  have R3 := hid hr
  have B3 := hid (B2.out.keep hk (by omega))
  have D3 := hid (show Row w3 ⟨da, dn, dc⟩ dl from hrow)
  have N3 := hid (show New (w.heap.size + 1) ⟨da, dn, dc⟩ from hnew.mono S2.out)
  clear hk ho hr hrow hnew B2 R2 K2 HO2
  go_wp2_with fail
  refine (id_at rk rb g n zs cid q3 w3 R3.out).mono ?_
  rintro e w4 ⟨hk, ⟨sl, q4, vv, ho, rfl, ⟨⟨sa, sn, sc⟩, rfl, hrow, hnew⟩, hr⟩ | ⟨hs, rfl⟩⟩
  rotate_left
  · have := Out.bind_stop hs (fun s q3 =>
      if ve = 0 then (versO zs q3).bind fun vs q4 => Out.ok (⟨5, ve, dl, s, [], vs, 0⟩ : Hd) q4
      else if ve = 1 then (if first / 64 % 2 = 0 then .bad 62 else (fillO zs (1 + first / 16 % 4) q3).bind fun tl q4 => .ok ⟨1 + first / 16 % 4, ve, dl, s, tl.1, [], tl.2⟩ q4)
      else .ok ⟨7, ve, dl, s, [], [], 0⟩ q3)
    exact ⟨rfl, K3.out.trans hk, .inr (by rw [HO3.out]; exact ⟨this.1, by rw [this.2]⟩)⟩
  have HO4 := hid (show longO zs first p = if ve = 0 then (versO zs q4).bind fun vs q4 => .ok ⟨5, ve, dl, sl, [], vs, 0⟩ q4
    else if ve = 1 then (if first / 64 % 2 = 0 then .bad 62 else (fillO zs (1 + first / 16 % 4) q4).bind fun tl q4 => .ok ⟨1 + first / 16 % 4, ve, dl, sl, tl.1, [], tl.2⟩ q4)
    else .ok ⟨7, ve, dl, sl, [], [], 0⟩ q4 from by rw [HO3.out, ho]; rfl)
  have K4 := hid (K3.out.trans hk)
  have S4 := hid (show w.heap.size + 1 ≤ w4.heap.size from by have := hk.size; have := S3.out; omega)
  have R4 := hid hr
  have B4 := hid (B3.out.keep hk (by omega))
  have H4 := hid (show Holds (w.heap.size + 1) w4 ⟨0, ve, dl, sl, [], [], 0⟩ ⟨da, dn, dc⟩ ⟨sa, sn, sc⟩ nilS nilS from ⟨sub_keepN D3.out N3.out hk (fun i e => .inl (by omega)), hrow, sub_nil _ _ _, sub_nil _ _ _, N3.out, hnew.mono S3.out, new_nil _, new_nil _⟩)
  clear hk ho hr hrow hnew B3 R3 K3 HO3 D3 N3
  go_wp2_with (refine wpList_store_row rfl 80 _ _ rfl w4.heap.size (hcells ⟨0, ve, dl, sl, [], [], 0⟩ ⟨da, dn, dc⟩ ⟨sa, sn, sc⟩ nilS nilS) rfl rfl 80 _ (heap_alloc_new w4 _) (hcells_info _ _ _ _ _) rfl (hcells_one _ _ _ _ _) ?_; refine Hid.out ?_)
  refine hid ?_
  generalize hw5 : World.setRow _ _ _ = w5
  have k5 : Keep (fun i => i = w4.heap.size) w4 w5 := by rw [← hw5]; exact ((Keep.refl (fun i => i = w4.heap.size) w4).alloc _).setRow _ _ (.inl rfl)
  have b5 : Box w5 80 w4.heap.size ⟨0, ve, dl, sl, [], [], 0⟩ ⟨da, dn, dc⟩ ⟨sa, sn, sc⟩ nilS nilS := by rw [← hw5]; exact setRow_heap _ _ _ _ 80 _ (heap_alloc_new w4 _)
  clear hw5
  have hS4 := S4.out
  have K5 := hid (show Keep (fun k => k = rb) w w5 from K4.out.trans' k5 (fun i hi e => by omega))
  have R5 := hid (R4.out.keepNew k5 HH.out (fun i e => by omega))
  have BR5 := hid (B4.out.keep k5 (by omega))
  have H5 := hid (H4.out.keep k5 (fun i e => .inr (by omega)))
  have B5 := hid b5
  have HNEB := hid (show (∀ b, blk da = some b → ¬ b = w4.heap.size) ∧ (∀ b, blk sa = some b → ¬ b = w4.heap.size) from ⟨fun b hb' e => by have := H4.out.dr.lt b hb'; omega, fun b hb' e => by have := H4.out.sr.lt b hb'; omega⟩)
  have HNEW := hid (show Row w5 ⟨da, dn, dc⟩ dl ∧ (∀ b, blk da = some b → ¬ b = w4.heap.size) ∧ Row w5 ⟨sa, sn, sc⟩ sl ∧ (∀ b, blk sa = some b → ¬ b = w4.heap.size) ∧ New (w.heap.size + 1) ⟨da, dn, dc⟩ ∧ New (w.heap.size + 1) ⟨sa, sn, sc⟩ ∧ True ∧ True from ⟨H5.out.dr, HNEB.out.1, H5.out.sr, HNEB.out.2, H4.out.nd, H4.out.ns, trivial, trivial⟩)
  have hlt5 := b5.lt
  have S5 := hid k5.size
  generalize hhb : w4.heap.size = hb at *
  clear hhb
  have e0 := b5.c0
  have e1 := b5.c1
  have z0 := b5.free 0
  have z5 := b5.free 5
  dsimp only at e0 e1
  clear k5 b5 K4 R4 B4 H4 S4 S3 S2 S1 Q1
  by_cases h0 : ve = 0
  · subst h0
    have HO5 := hid (show longO zs first p = (versO zs q4).bind fun vs q4 => .ok ⟨5, 0, dl, sl, [], vs, 0⟩ q4 from by rw [HO4.out, if_pos rfl])
    have ks : Keep (fun k => k = hb) w5 (w5.setCell ⟨hb, 0, none⟩ (.int .i64 5)) := (Keep.refl (fun k => k = hb) w5).setCell _ _ _ (.inl rfl)
    have K6 := hid (show Keep (fun k => k = rb) w (w5.setCell ⟨hb, 0, none⟩ (.int .i64 5)) from K5.out.trans' ks (fun i hi e => by omega))
    have R6 := hid (R5.out.keepNew ks HH.out (fun i e => by omega))
    have BR6 := hid (BR5.out.keep ks (by omega))
    have B6 := hid (show Box (w5.setCell ⟨hb, 0, none⟩ (.int .i64 5)) 80 hb ⟨5, 0, dl, sl, [], [], 0⟩ ⟨da, dn, dc⟩ ⟨sa, sn, sc⟩ nilS nilS from B5.out.kind_ 5)
    have H6 := hid (show Holds (w.heap.size + 1) (w5.setCell ⟨hb, 0, none⟩ (.int .i64 5)) ⟨5, 0, dl, sl, [], [], 0⟩ ⟨da, dn, dc⟩ ⟨sa, sn, sc⟩ nilS nilS from by
      obtain ⟨x1, x2, x3, x4, x5, x6, x7, x8⟩ := HNEW.out
      exact ⟨x1.keep ks x2, x3.keep ks x4, sub_nil _ _ _, sub_nil _ _ _, x5, x6, new_nil _, new_nil _⟩)
    have hs6 : (w5.setCell ⟨hb, 0, none⟩ (.int .i64 5)).heap.size = w5.heap.size := by simp
    clear ks K5 R5 BR5 B5 H5 HO4
    go_wp2_with fail
    generalize w5.setCell ⟨hb, 0, none⟩ (.int .i64 5) = w6 at *
    have hq4 := R6.out.p0
    obtain ⟨P4, rfl⟩ := Int.eq_ofNat_of_zero_le hq4
    refine (versions_at rk rb g n zs cid w6 P4 R6.out).mono ?_
    rintro e w7 ⟨hk, ⟨vl, q7, vv, ho, rfl, ⟨⟨va, vn, vc⟩, rfl, hrow, hnew⟩, hr⟩ | ⟨hs, rfl⟩⟩
    rotate_left
    · have := Out.bind_stop hs (fun vs q4 => Out.ok (⟨5, 0, dl, sl, [], vs, 0⟩ : Hd) q4)
      exact ⟨rfl, K6.out.trans hk, .inr (by rw [HO5.out]; exact ⟨this.1, by rw [this.2]⟩)⟩
    have HOX := hid (show longO zs first p = .ok ⟨5, 0, dl, sl, [], vl, 0⟩ q7 from by rw [HO5.out, ho]; rfl)
    have b7 := B6.out.keep hk (by omega)
    have h7 := H6.out.keep hk (fun i e => .inl (by omega))
    have hs7 := hk.size
    have ks : Keep (fun k => k = hb) w7 (w7.setCell ⟨hb, 5, none⟩ (.slice va vn vc)) := (Keep.refl (fun k => k = hb) w7).setCell _ _ _ (.inl rfl)
    have KX := hid (show Keep (fun k => k = rb) w (w7.setCell ⟨hb, 5, none⟩ (.slice va vn vc)) from (K6.out.trans hk).trans' ks (fun i hi e => by omega))
    have RX := hid (hr.keepNew ks HH.out (fun i e => by omega))
    have BR := hid ((BR6.out.keep hk (by omega)).keep ks (by omega))
    have BX := hid (show Box (w7.setCell ⟨hb, 5, none⟩ (.slice va vn vc)) 80 hb ⟨5, 0, dl, sl, [], vl, 0⟩ ⟨da, dn, dc⟩ ⟨sa, sn, sc⟩ nilS ⟨va, vn, vc⟩ from b7.vers_ ⟨va, vn, vc⟩ vl)
    have HX := hid (show Holds (w.heap.size + 1) (w7.setCell ⟨hb, 5, none⟩ (.slice va vn vc)) ⟨5, 0, dl, sl, [], vl, 0⟩ ⟨da, dn, dc⟩ ⟨sa, sn, sc⟩ nilS ⟨va, vn, vc⟩ from by
      have n1 := hnew.mono (show w.heap.size + 1 ≤ w6.heap.size by omega)
      refine ⟨h7.dr.keep ks ?_, h7.sr.keep ks ?_, sub_nil _ _ _, hrow.keep ks ?_, h7.nd, h7.ns, new_nil _, n1⟩
      · intro b hb' e; exact HNEB.out.1 b hb' e
      · intro b hb' e; exact HNEB.out.2 b hb' e
      · intro b hb' e; have := hnew b hb'; omega)
    have y5' := b7.free 5
    obtain ⟨c0, c1, c2, c3, c4, c5, c6⟩ := b7.all
    have hsX : (w7.setCell ⟨hb, 5, none⟩ (.slice va vn vc)).heap.size = w7.heap.size := by simp
    clear ks hk ho hr hrow hnew b7 h7 K6 R6 BR6 B6 H6 HO5
    go_wp2_with (refine wpList_store_row rfl 80 _ _ rfl w.heap.size (hcells ⟨5, 0, dl, sl, [], vl, 0⟩ ⟨da, dn, dc⟩ ⟨sa, sn, sc⟩ nilS ⟨va, vn, vc⟩) rfl rfl 80 _ BR.out (hcells_info _ _ _ _ _) rfl (hcells_one _ _ _ _ _) ?_)
    refine ret_hd rfl rfl w.heap.size 80 ⟨5, 0, dl, sl, [], vl, 0⟩ ⟨da, dn, dc⟩ ⟨sa, sn, sc⟩ nilS ⟨va, vn, vc⟩ rfl (BR.out.row_ _ _ _ _ _) ?_
    have ks : Keep (fun k => k = w.heap.size) (w7.setCell ⟨hb, 5, none⟩ (.slice va vn vc)) (World.setRow (w7.setCell ⟨hb, 5, none⟩ (.slice va vn vc)) w.heap.size (hcells ⟨5, 0, dl, sl, [], vl, 0⟩ ⟨da, dn, dc⟩ ⟨sa, sn, sc⟩ nilS ⟨va, vn, vc⟩)) := (Keep.refl _ _).setRow _ _ (.inl rfl)
    exact ⟨KX.out.trans' ks (fun i hi e => by omega), .inl ⟨⟨5, 0, dl, sl, [], vl, 0⟩, q7, _, HOX.out, rfl, ⟨⟨da, dn, dc⟩, ⟨sa, sn, sc⟩, nilS, ⟨va, vn, vc⟩, rfl, (HX.out.keep ks (fun i e => .inl (by omega))).mono (by omega)⟩, RX.out.keepNew ks HH.out (fun i e => by omega)⟩⟩
  by_cases h1 : ve = 1
  · subst h1
    have HO5 := hid (show longO zs first p = if first / 64 % 2 = 0 then .bad 62 else (fillO zs (1 + first / 16 % 4) q4).bind fun tl q4 => .ok ⟨1 + first / 16 % 4, 1, dl, sl, tl.1, [], tl.2⟩ q4 from by rw [HO4.out, if_neg (by omega), if_pos rfl])
    have ha64 := and64 first hf0 hf1
    have ha48 := and48 first hf0 hf1
    by_cases hx : first / 64 % 2 = 0
    · rw [hx] at ha64
      have HX := hid (show Ans w rk rb g n zs cid (HdV w.heap.size) (longO zs first p) (.panicked [refP 62]) w5 from ⟨K5.out, .inr (by rw [HO5.out, if_pos hx]; exact ⟨stop_bad _, rfl⟩)⟩)
      clear hx ha48
      go_wp2_with fail
      refine (refuse_no 62 w5).mono ?_
      rintro e w6 ⟨rfl, rfl⟩
      exact ⟨rfl, HX.out⟩
    have hx1 : first / 64 % 2 = 1 := by omega
    have HO6 := hid (show longO zs first p = (fillO zs (1 + first / 16 % 4) q4).bind fun tl q4 => .ok ⟨1 + first / 16 % 4, 1, dl, sl, tl.1, [], tl.2⟩ q4 from by rw [HO5.out, if_neg hx])
    rw [hx1] at ha64
    have hkk0 : 0 ≤ first / 16 % 4 := by omega
    have hkk1 : first / 16 % 4 ≤ 3 := by omega
    clear hx hx1 HO5 HO4
    generalize first / 16 % 4 = kk at *
    go_wp2_with fail
    refine (refuse_ok 62 w5).mono ?_
    rintro e w6 ⟨rfl, rfl⟩
    have ks : Keep (fun k => k = hb) w5 (w5.setCell ⟨hb, 0, none⟩ (.int .i64 (1 + kk))) := (Keep.refl (fun k => k = hb) w5).setCell _ _ _ (.inl rfl)
    have K6 := hid (show Keep (fun k => k = rb) w (w5.setCell ⟨hb, 0, none⟩ (.int .i64 (1 + kk))) from K5.out.trans' ks (fun i hi e => by omega))
    have R6 := hid (R5.out.keepNew ks HH.out (fun i e => by omega))
    have BR6 := hid (BR5.out.keep ks (by omega))
    have B6 := hid (show Box (w5.setCell ⟨hb, 0, none⟩ (.int .i64 (1 + kk))) 80 hb ⟨1 + kk, 1, dl, sl, [], [], 0⟩ ⟨da, dn, dc⟩ ⟨sa, sn, sc⟩ nilS nilS from B5.out.kind_ (1 + kk))
    have H6 := hid (show Holds (w.heap.size + 1) (w5.setCell ⟨hb, 0, none⟩ (.int .i64 (1 + kk))) ⟨1 + kk, 1, dl, sl, [], [], 0⟩ ⟨da, dn, dc⟩ ⟨sa, sn, sc⟩ nilS nilS from by
      obtain ⟨x1, x2, x3, x4, x5, x6, x7, x8⟩ := HNEW.out
      exact ⟨x1.keep ks x2, x3.keep ks x4, sub_nil _ _ _, sub_nil _ _ _, x5, x6, new_nil _, new_nil _⟩)
    have hs6 : (w5.setCell ⟨hb, 0, none⟩ (.int .i64 (1 + kk))).heap.size = w5.heap.size := by simp
    clear ks K5 R5 BR5 B5 H5
    go_wp2_with fail
    generalize w5.setCell ⟨hb, 0, none⟩ (.int .i64 (1 + kk)) = w6 at *
    refine (fill_at rk rb g n zs cid q4 w6 hb ⟨1 + kk, 1, dl, sl, [], [], 0⟩ ⟨da, dn, dc⟩ ⟨sa, sn, sc⟩ nilS rfl rfl B6.out ⟨by omega, by omega, by omega⟩ R6.out).mono ?_
    rintro e w7 ⟨hk, ⟨⟨tk, ln⟩, q7, ⟨ta, tn, tc⟩, ho, rfl, hbx, htr, htn, hr⟩ | ⟨hs, rfl⟩⟩
    rotate_left
    · have := Out.bind_stop hs (fun tl q4 => Out.ok (⟨1 + kk, 1, dl, sl, tl.1, [], tl.2⟩ : Hd) q4)
      exact ⟨rfl, K6.out.trans' hk (fun i hi e => by rcases e with e | e; exact e; omega), .inr (by rw [HO6.out]; exact ⟨this.1, by rw [this.2]⟩)⟩
    have hs7 := hk.size
    have HOX := hid (show longO zs first p = .ok ⟨1 + kk, 1, dl, sl, tk, [], ln⟩ q7 from by rw [HO6.out, ho]; rfl)
    have KX := hid (show Keep (fun k => k = rb) w w7 from K6.out.trans' hk (fun i hi e => by rcases e with e | e; exact e; omega))
    have RX := hid hr
    have BR := hid (BR6.out.keep hk (by omega))
    have BX := hid (show Box w7 80 hb ⟨1 + kk, 1, dl, sl, tk, [], ln⟩ ⟨da, dn, dc⟩ ⟨sa, sn, sc⟩ ⟨ta, tn, tc⟩ nilS from hbx)
    have HX := hid (show Holds (w.heap.size + 1) w7 ⟨1 + kk, 1, dl, sl, tk, [], ln⟩ ⟨da, dn, dc⟩ ⟨sa, sn, sc⟩ ⟨ta, tn, tc⟩ nilS from by
      refine ⟨H6.out.dr.keep hk ?_, H6.out.sr.keep hk ?_, htr, sub_nil _ _ _, H6.out.nd, H6.out.ns, htn.mono (by omega), new_nil _⟩
      · intro b hb' e
        have := H6.out.nd b hb'
        rcases e with e | e
        · omega
        · exact HNEB.out.1 b hb' e
      · intro b hb' e
        have := H6.out.ns b hb'
        rcases e with e | e
        · omega
        · exact HNEB.out.2 b hb' e)
    clear hk ho hr hbx htr htn K6 R6 BR6 B6 H6 HO6
    obtain ⟨a0, a1, a2, a3, a4, a5, a6⟩ := BX.out.all
    go_wp2_with (refine wpList_store_row rfl 80 _ _ rfl w.heap.size (hcells ⟨1 + kk, 1, dl, sl, tk, [], ln⟩ ⟨da, dn, dc⟩ ⟨sa, sn, sc⟩ ⟨ta, tn, tc⟩ nilS) rfl rfl 80 _ BR.out (hcells_info _ _ _ _ _) rfl (hcells_one _ _ _ _ _) ?_)
    refine ret_hd rfl rfl w.heap.size 80 ⟨1 + kk, 1, dl, sl, tk, [], ln⟩ ⟨da, dn, dc⟩ ⟨sa, sn, sc⟩ ⟨ta, tn, tc⟩ nilS rfl (BR.out.row_ _ _ _ _ _) ?_
    have ks : Keep (fun k => k = w.heap.size) w7 (World.setRow w7 w.heap.size (hcells ⟨1 + kk, 1, dl, sl, tk, [], ln⟩ ⟨da, dn, dc⟩ ⟨sa, sn, sc⟩ ⟨ta, tn, tc⟩ nilS)) := (Keep.refl _ _).setRow _ _ (.inl rfl)
    exact ⟨KX.out.trans' ks (fun i hi e => by omega), .inl ⟨⟨1 + kk, 1, dl, sl, tk, [], ln⟩, q7, _, HOX.out, rfl, ⟨⟨da, dn, dc⟩, ⟨sa, sn, sc⟩, ⟨ta, tn, tc⟩, nilS, rfl, (HX.out.keep ks (fun i e => .inl (by omega))).mono (by omega)⟩, RX.out.keepNew ks HH.out (fun i e => by omega)⟩⟩
  · have h0' : (ve == 0) = false := by simp [h0]
    have h1' : (ve == 1) = false := by simp [h1]
    have HOX := hid (show longO zs first p = .ok ⟨7, ve, dl, sl, [], [], 0⟩ q4 from by rw [HO4.out, if_neg h0, if_neg h1])
    have ks : Keep (fun k => k = hb) w5 (w5.setCell ⟨hb, 0, none⟩ (.int .i64 7)) := (Keep.refl (fun k => k = hb) w5).setCell _ _ _ (.inl rfl)
    have KX := hid (show Keep (fun k => k = rb) w (w5.setCell ⟨hb, 0, none⟩ (.int .i64 7)) from K5.out.trans' ks (fun i hi e => by omega))
    have RX := hid (R5.out.keepNew ks HH.out (fun i e => by omega))
    have BR := hid (BR5.out.keep ks (by omega))
    have BX := hid (show Box (w5.setCell ⟨hb, 0, none⟩ (.int .i64 7)) 80 hb ⟨7, ve, dl, sl, [], [], 0⟩ ⟨da, dn, dc⟩ ⟨sa, sn, sc⟩ nilS nilS from B5.out.kind_ 7)
    have HX := hid (show Holds (w.heap.size + 1) (w5.setCell ⟨hb, 0, none⟩ (.int .i64 7)) ⟨7, ve, dl, sl, [], [], 0⟩ ⟨da, dn, dc⟩ ⟨sa, sn, sc⟩ nilS nilS from by
      obtain ⟨x1, x2, x3, x4, x5, x6, x7, x8⟩ := HNEW.out
      exact ⟨x1.keep ks x2, x3.keep ks x4, sub_nil _ _ _, sub_nil _ _ _, x5, x6, new_nil _, new_nil _⟩)
    have hs6 : (w5.setCell ⟨hb, 0, none⟩ (.int .i64 7)).heap.size = w5.heap.size := by simp
    obtain ⟨c0, c1, c2, c3, c4, c5, c6⟩ := B5.out.all
    clear ks K5 R5 BR5 B5 H5 HO4 h0 h1 e0 e1
    go_wp2_with (refine wpList_store_row rfl 80 _ _ rfl w.heap.size (hcells ⟨7, ve, dl, sl, [], [], 0⟩ ⟨da, dn, dc⟩ ⟨sa, sn, sc⟩ nilS nilS) rfl rfl 80 _ BR.out (hcells_info _ _ _ _ _) rfl (hcells_one _ _ _ _ _) ?_)
    refine ret_hd rfl rfl w.heap.size 80 ⟨7, ve, dl, sl, [], [], 0⟩ ⟨da, dn, dc⟩ ⟨sa, sn, sc⟩ nilS nilS rfl (BR.out.row_ _ _ _ _ _) ?_
    have ks : Keep (fun k => k = w.heap.size) (w5.setCell ⟨hb, 0, none⟩ (.int .i64 7)) (World.setRow (w5.setCell ⟨hb, 0, none⟩ (.int .i64 7)) w.heap.size (hcells ⟨7, ve, dl, sl, [], [], 0⟩ ⟨da, dn, dc⟩ ⟨sa, sn, sc⟩ nilS nilS)) := (Keep.refl _ _).setRow _ _ (.inl rfl)
    exact ⟨KX.out.trans' ks (fun i hi e => by omega), .inl ⟨⟨7, ve, dl, sl, [], [], 0⟩, q4, _, HOX.out, rfl, ⟨⟨da, dn, dc⟩, ⟨sa, sn, sc⟩, nilS, nilS, rfl, (HX.out.keep ks (fun i e => .inl (by omega))).mono (by omega)⟩, RX.out.keepNew ks HH.out (fun i e => by omega)⟩⟩
end
end Go.Proofs.Ytnnjogfpapndaaa
