/-
  What shake's takeClientFinished does: a contract that the statements' walks use.
-/
import Derived.Test.YtekpepnonhbkcaaShL
import Derived.Test.YtekpepnonhbkcaaExp
import Derived.Lib.SlBytesConst

/-
  What shake's sum, digest and expand do: contracts that the statements' walks use.
-/
namespace Go.Proofs.Ytekpepnonhbkcaa
open Go.RowKit
set_option linter.unusedVariables false
set_option maxRecDepth 20000

set_option maxHeartbeats 4000000 in
theorem ssum_any (sb : Nat) (S : Sh) (sd : List Int) (w : World) (h : ShAt w sb S) (hs : Seg w S.said.a sd) (hl : sd.length = S.said.n) (hn : S.said.n ≤ 1000000) (hz : ∀ y ∈ sd, 0 ≤ y ∧ y < 256) :
    Calls Try.prog 69 #[.pointer (some ⟨sb, 0, none⟩)] w fun e w' => ∃ g, e = .returned (.slice (some ⟨g, 0, none⟩) 16 16) ∧ Q w w' ∧ Seg w' (some ⟨g, 0, none⟩) (dg sd) ∧ w.heap.size ≤ g := by
  have c := h.said
  generalize hpv : S.said = pv at *
  obtain ⟨a, n, cc⟩ := pv
  dsimp only at *
  have CL := hid (digest_any a n cc sd w hl (by omega) hz hs)
  clear h hs hl hn hz hpv
  have HD := hid (dg_len sd)
  generalize dg sd = ds at *
  go_enter Try.func69, Try.ntmps69
  go_wp2_with fail
  refine CL.out.mono ?_
  rintro e w1 ⟨rfl, q1⟩
  have Q1 := hid q1
  clear q1
  have HZ := hid (heap_alloc_new w1 (.cells z16 63))
  have hi := arr_info ds HD.out
  have HS := hid (show z16.size = (u8s ds).toArray.size by simp [HD.out])
  go_wp2_with (refine wpList_store_row rfl 63 _ _ rfl w1.heap.size (u8s ds).toArray rfl rfl 63 _ HZ.out hi HS.out (arr_one ds) ?_; refine Hid.out ?_)
  refine hid ?_
  generalize hw2 : World.setRow _ _ _ = w2
  have b2 : w2.heap[w1.heap.size]? = some (.cells (u8s ds).toArray 63 (0, 0)) := by rw [← hw2]; exact setRow_heap _ _ _ _ 63 _ HZ.out
  have q2 : Q w1 w2 := by rw [← hw2]; exact (((Keep.refl (fun _ => False) w1).alloc _).setRow _ _ (.inr (Nat.le_refl _))).toQ (fun _ _ => id)
  have HX := hid (show Q w w2 ∧ Seg w2 (some ⟨w1.heap.size, 0, none⟩) ds ∧ w.heap.size ≤ w1.heap.size from ⟨Q1.out.trans q2, seg_arr b2, Q1.out.size⟩)
  clear hw2 q2
  generalize w1.heap.size = g at *
  go_wp2
  go_ret
  exact ⟨g, rfl, HX.out⟩
set_option maxHeartbeats 4000000 in
theorem sexpand_any (k : Sv) (ks : List Int) (s : ByteArray) (w : World) (hk : In w k ks) (bk : k.n ≤ 255) (bs : s.size ≤ 255) :
    Calls Try.prog 81 #[.slice k.a k.n k.c, .string s] w fun e w' => ∃ x : Sv, e = .returned (.slice x.a x.n x.c) ∧ Q w w' ∧ Row w' x (expR ks (sb s) 16) := by
  have EX := hid (expand_any k ks s 16 w hk (by omega) (by omega))
  clear hk bk bs
  obtain ⟨ka, kn, kc⟩ := k
  dsimp only at *
  generalize expE kn s.size 16 = er at *
  generalize expR ks (sb s) 16 = rs at *
  go_enter Try.func81, Try.ntmps81
  go_wp2_with fail
  refine EX.out.mono ?_
  rintro e w1 ⟨⟨xa, xn, xc⟩, rfl, hq⟩
  have HQ := hid hq
  clear hq
  dsimp only
  go_wp2
  go_ret
  exact ⟨⟨xa, xn, xc⟩, rfl, HQ.out⟩
theorem ret_arrS {fn : Func} {p : Tmp} {a : Act} {w : World} {R : Ending → World → Prop} (hr : fn.results = #[.cell p 63]) (hd : a.defers = [])
    (g : Nat) (cs : Array Value) (hi : (Try.prog.info? 63).map (·.size) = some cs.size) (hp : a.tmps.getD p undef = .pointer (some ⟨g, 0, none⟩)) (hb : w.heap[g]? = some (.cells cs 63 (0, 0))) (hR : R (.returned (.agg cs)) w) : bodyPost Try.prog fn R .ret a w :=
  ⟨hd, _, results_cell_row hr _ w g 63 _ (0, 0) _ hp hb Try.underlying63 rfl hi, hR⟩
set_option maxHeartbeats 4000000 in
theorem sdigest_any (pb m c : Nat) (P : Nat → Sv) (Z : Nat → List Int) (w : World) (hp : ∀ j, j < m → w.cell? ⟨pb, j, none⟩ = some (.slice (P j).a (P j).n (P j).c)) (hz : ∀ j, j < m → Seg w (P j).a (Z j) ∧ (Z j).length = (P j).n) (hm : m ≤ 100) (ht : (cat Z m).length ≤ 1000000) (hy : ∀ y ∈ cat Z m, 0 ≤ y ∧ y < 256) :
    Calls Try.prog 68 #[.slice (some ⟨pb, 0, none⟩) m c] w fun e w' => e = .returned (arr (dg (cat Z m))) ∧ Q w w' := by
  have q0 : Q w (w.alloc (.cells z16 63)) := (Q.refl w).alloc _
  have CT := hid (concat_any pb m c P Z (w.alloc (.cells z16 63)) (fun j hj => (q0.cell (p := ⟨pb, j, none⟩) (lt_of_cell (hp j hj))).trans (hp j hj)) (fun j hj => ⟨(hz j hj).1.q q0, (hz j hj).2⟩) hm ht)
  have HY := hid hy
  have HT := hid ht
  have Q0 := hid q0
  have b0 : (w.alloc (.cells z16 63)).heap[w.heap.size]? = some (.cells z16 63 (0, 0)) := heap_alloc_new w _
  have B0 := hid b0
  clear hp hz hm ht hy q0 b0
  generalize cat Z m = zs at *
  go_enter Try.func68, Try.ntmps68
  go_wp2_with fail
  refine CT.out.mono ?_
  rintro e w1 ⟨⟨xa, xn, xc⟩, rfl, q1, r1, _⟩
  have DG := hid (digest_any xa xn xc zs w1 (Row.len r1) (by have h1 := Row.len r1; have h2 := HT.out; dsimp only at h1; omega) HY.out r1.seg)
  have HD := hid (dg_len zs)
  have B1 := hid ((Below.block q1 _ (lt_of_block B0.out)).trans B0.out)
  have Q1 := hid (Q0.out.trans q1)
  clear q1 r1
  generalize hdd : dg zs = ds at *
  have HDD := hid hdd
  clear hdd
  go_wp2_with fail
  refine DG.out.mono ?_
  rintro e w2 ⟨rfl, q2⟩
  have B2 := hid ((Below.block q2 _ (lt_of_block B1.out)).trans B1.out)
  have Q2 := hid (Q1.out.trans q2)
  clear q2
  have hi := arr_info ds HD.out
  have HS := hid (show z16.size = (u8s ds).toArray.size by simp [HD.out])
  generalize hgg : w.heap.size = g at *
  have HGG := hid hgg
  clear hgg
  go_wp2_with (refine wpList_store_row rfl 63 _ _ rfl g (u8s ds).toArray rfl rfl 63 _ B2.out hi HS.out (arr_one ds) ?_; refine Hid.out ?_)
  refine hid ?_
  generalize hw3 : World.setRow _ _ _ = w3
  have b3 : w3.heap[g]? = some (.cells (u8s ds).toArray 63 (0, 0)) := by rw [← hw3]; exact setRow_heap _ _ _ _ 63 _ B2.out
  have k3 : Keep (fun b => b = g) w2 w3 := by rw [← hw3]; exact (Keep.refl _ w2).setRow _ _ (.inl rfl)
  have q3 : Q w w3 := k3.below Q2.out Q2.out.size (fun i e => by rw [e, ← HGG.out]; exact Nat.le_refl _)
  clear hw3 k3
  go_wp2
  refine ret_arrS rfl rfl g _ hi rfl b3 ⟨by rw [HDD.out], q3⟩
end Go.Proofs.Ytekpepnonhbkcaa

/-
  What shake's serverHello, choice and finished do: contracts that the statements' walks use.
-/
namespace Go.Proofs.Ytekpepnonhbkcaa
open Go.RowKit
set_option linter.unusedVariables false
set_option maxRecDepth 20000

theorem build1 (kind : Int) (W : World) (x : Sv) (X : List Int) (hx : Seg W x.a X ∧ X.length = x.n) (hb : X.length ≤ 800000) :
    Calls Try.prog 36 #[.int .u8 kind, .slice (some ⟨W.heap.size, 0, none⟩) 1 1] (W.alloc (.cells #[.slice x.a x.n x.c] 24)) fun e w' => ∃ t : Sv, e = .returned (.slice t.a t.n t.c) ∧ Q W w' ∧ Row w' t (msgL kind X) := by
  have e1 : cat (fun _ => X) 1 = X := by simp [cat]
  have qa : Q W (W.alloc (.cells #[.slice x.a x.n x.c] 24)) := (Q.refl W).alloc _
  refine (build_any kind W.heap.size 1 1 (fun _ => x) (fun _ => X) _ (fun j hj => ?_) (fun j hj => ⟨hx.1.q qa, hx.2⟩) (by omega) (by rw [e1]; omega)).mono ?_
  · obtain rfl : j = 0 := by omega
    exact cell_lit W _ 24 0
  · rintro e w' ⟨t, rfl, q, r⟩
    rw [e1] at r
    exact ⟨t, rfl, qa.trans q, r⟩
theorem build2 (kind : Int) (W : World) (x y : Sv) (X Y : List Int) (hx : Seg W x.a X ∧ X.length = x.n) (hy : Seg W y.a Y ∧ Y.length = y.n) (hb : X.length + Y.length ≤ 800000) :
    Calls Try.prog 36 #[.int .u8 kind, .slice (some ⟨W.heap.size, 0, none⟩) 2 2] (W.alloc (.cells #[.slice x.a x.n x.c, .slice y.a y.n y.c] 24)) fun e w' => ∃ t : Sv, e = .returned (.slice t.a t.n t.c) ∧ Q W w' ∧ Row w' t (msgL kind (X ++ Y)) := by
  have e2 : cat (fun j => if j = 0 then X else Y) 2 = X ++ Y := by simp [cat]
  have qa : Q W (W.alloc (.cells #[.slice x.a x.n x.c, .slice y.a y.n y.c] 24)) := (Q.refl W).alloc _
  refine (build_any kind W.heap.size 2 2 (fun j => if j = 0 then x else y) (fun j => if j = 0 then X else Y) _ (fun j hj => ?_) (fun j hj => ?_) (by omega) (by rw [e2, List.length_append]; omega)).mono ?_
  · rcases (show j = 0 ∨ j = 1 by omega) with rfl | rfl
    · exact cell_lit W _ 24 0
    · exact cell_lit W _ 24 1
  · rcases (show j = 0 ∨ j = 1 by omega) with rfl | rfl
    · exact ⟨hx.1.q qa, hx.2⟩
    · exact ⟨hy.1.q qa, hy.2⟩
  · rintro e w' ⟨t, rfl, q, r⟩
    rw [e2] at r
    exact ⟨t, rfl, qa.trans q, r⟩
set_option maxHeartbeats 4000000 in
theorem finished_any (k : Sv) (zs : List Int) (w : World) (hs : Seg w k.a zs) (hl : zs.length = k.n) (hn : k.n ≤ 800000) :
    Calls Try.prog 49 #[.slice k.a k.n k.c] w fun e w' => ∃ x : Sv, e = .returned (.slice x.a x.n x.c) ∧ Q w w' ∧ Row w' x (msgL 20 zs) := by
  have BU := hid (build1 20 w k zs ⟨hs, hl⟩ (by omega))
  clear hs hl hn
  obtain ⟨ka, kn, kc⟩ := k
  dsimp only at *
  go_enter Try.func49, Try.ntmps49
  go_wp2_with fail
  refine BU.out.mono ?_
  rintro e w1 ⟨⟨xa, xn, xc⟩, rfl, hq⟩
  have HQ := hid hq
  clear hq
  dsimp only
  go_wp2
  go_ret
  exact ⟨⟨xa, xn, xc⟩, rfl, HQ.out⟩
set_option maxHeartbeats 4000000 in
theorem serverHello_any (sv : Bool) (rs : List Int) (pv : Int) (t p : Sv) (w : World) (hl : rs.length = 32) (hpv : pv ≤ 9223372036854775807) :
    Calls Try.prog 46 #[.agg (ccells sv rs pv t p).toArray] w fun e w' => ∃ x : Sv, e = .returned (.slice x.a x.n x.c) ∧ Q w w' ∧ Row w' x (msgL 2 (grL rs pv)) := by
  have GR := hid (fun u => greeting_any sv rs pv t p u hl hpv)
  have HIN := hid (ccells_info (sv := sv) (pv := pv) (t := t) (p := p) hl)
  have HGL := hid (show (grL rs pv).length = 40 by unfold grL; rw [List.length_append, be_length, hl])
  clear hl hpv
  generalize (ccells sv rs pv t p).toArray = X at *
  generalize grL rs pv = gl at *
  go_enter Try.func46, Try.ntmps46
  go_upto_region 1 with fail
  generalize hw1 : World.alloc w _ = v1
  have Q1 := hid (show Q w v1 by rw [← hw1]; exact (Q.refl w).alloc _)
  have HB := hid (show v1.heap[w.heap.size]? = some (.cells X 26 (0, 0)) by rw [← hw1]; exact heap_alloc_new w _)
  clear hw1
  generalize w.heap.size = cb at *
  go_wp2_with (refine wpList_load_row rfl 26 _ rfl cb rfl 26 X (0, 0) _ HB.out Try.underlying26 rfl HIN.out ?_)
  refine (GR.out v1).mono ?_
  rintro e w2 ⟨⟨ga, gn, gc⟩, rfl, q2, r2⟩
  have BU := hid (build1 2 w2 ⟨ga, gn, gc⟩ gl ⟨r2.seg, Row.len r2⟩ (by rw [HGL.out]; omega))
  have Q2 := hid (Q1.out.trans q2)
  clear q2 r2
  dsimp only at *
  go_wp2_with fail
  refine BU.out.mono ?_
  rintro e w3 ⟨⟨xa, xn, xc⟩, rfl, q3, r3⟩
  have HQ := hid (show Q w w3 ∧ Row w3 ⟨xa, xn, xc⟩ (msgL 2 gl) from ⟨Q2.out.trans q3, r3⟩)
  clear q3 r3
  dsimp only
  go_wp2
  go_ret
  exact ⟨⟨xa, xn, xc⟩, rfl, HQ.out⟩
set_option maxHeartbeats 4000000 in
theorem choice_any (s : ByteArray) (p : Sv) (ps : List Int) (w : World) (hp : Seg w p.a ps) (hpl : ps.length = p.n) (hpn : p.n ≤ 1024) (hs : s.size ≤ 32) :
    Calls Try.prog 48 #[.string s, .slice p.a p.n p.c] w fun e w' => ∃ x : Sv, e = .returned (.slice x.a x.n x.c) ∧ Q w w' ∧ Row w' x (msgL 8 ((be 1 (s.size : Int) ++ sb s) ++ (be 2 (ps.length : Int) ++ ps))) := by
  obtain ⟨pa, pn, pc⟩ := p
  dsimp only at *
  have HP := hid hp
  have LP := hid hpl
  have HPN := hid hpn
  have HSS := hid hs
  clear hp hpl hpn hs
  obtain ⟨cc, w1, hcv, q1, i1⟩ := conv_any s w
  have Q1 := hid q1
  have S1 := hid (sized_any' ⟨some ⟨w.heap.size, 0, none⟩, s.size, cc⟩ (sb s) 1 w1 ⟨i1.s, sb_len s⟩ (by omega) (by omega) (by have := HSS.out; show s.size ≤ _; omega))
  clear q1 i1
  dsimp only at S1
  go_enter Try.func48, Try.ntmps48
  go_wp2_with fail
  refine S1.out.mono ?_
  rintro e w2 ⟨⟨ya, yn, yc⟩, rfl, q2, r2⟩
  have Q2 := hid (Q1.out.trans q2)
  have S2 := hid (sized_any' ⟨pa, pn, pc⟩ ps 2 w2 ⟨HP.out.q Q2.out, LP.out⟩ (by omega) (by omega) (by have := HPN.out; show pn ≤ _; omega))
  have R2 := hid r2
  clear q2 r2 hcv
  dsimp only at S2
  go_wp2_with fail
  refine S2.out.mono ?_
  rintro e w3 ⟨⟨za, zn, zc⟩, rfl, q3, r3⟩
  rw [← LP.out] at r3
  have Q3 := hid (Q2.out.trans q3)
  have BU := hid (build2 8 w3 ⟨ya, yn, yc⟩ ⟨za, zn, zc⟩ _ _ ⟨R2.out.seg.q q3, Row.len R2.out⟩ ⟨r3.seg, Row.len r3⟩ (by have h1 := HSS.out; have h2 := HPN.out; have h3 := LP.out; simp only [List.length_append, be_length, sb_len]; omega))
  clear q3 r3
  dsimp only at BU
  go_wp2_with fail
  refine BU.out.mono ?_
  rintro e w4 ⟨⟨xa, xn, xc⟩, rfl, q4, r4⟩
  have HQ := hid (show Q w w4 ∧ Row w4 ⟨xa, xn, xc⟩ _ from ⟨Q3.out.trans q4, r4⟩)
  clear q4 r4
  dsimp only
  go_wp2
  go_ret
  exact ⟨⟨xa, xn, xc⟩, rfl, HQ.out⟩
end Go.Proofs.Ytekpepnonhbkcaa

/-
  What shake's proof does: a contract that the statements' walks use.
-/
namespace Go.Proofs.Ytekpepnonhbkcaa
open Go.RowKit
set_option linter.unusedVariables false
set_option maxRecDepth 20000

def ByL (zs : List Int) : Prop := ∀ y ∈ zs, 0 ≤ y ∧ y < 256
theorem ByL.app {xs ys : List Int} (h : ByL xs) (k : ByL ys) : ByL (xs ++ ys) := by
  intro y hy
  rcases List.mem_append.1 hy with hy | hy
  · exact h y hy
  · exact k y hy
theorem dig3 (W : World) (x y z : Sv) (X Y Z : List Int) (hx : Seg W x.a X ∧ X.length = x.n) (hy : Seg W y.a Y ∧ Y.length = y.n) (hz : Seg W z.a Z ∧ Z.length = z.n) (hb : X.length + Y.length + Z.length ≤ 800000) (bx : ByL X) (by_ : ByL Y) (bz : ByL Z) :
    Calls Try.prog 68 #[.slice (some ⟨W.heap.size, 0, none⟩) 3 3] (W.alloc (.cells #[.slice x.a x.n x.c, .slice y.a y.n y.c, .slice z.a z.n z.c] 24)) fun e w' => e = .returned (arr (dg (X ++ (Y ++ Z)))) ∧ Q W w' := by
  have e3 : cat (fun j => if j = 0 then X else if j = 1 then Y else Z) 3 = X ++ (Y ++ Z) := by simp [cat]
  have qa : Q W (W.alloc (.cells #[.slice x.a x.n x.c, .slice y.a y.n y.c, .slice z.a z.n z.c] 24)) := (Q.refl W).alloc _
  have D := sdigest_any W.heap.size 3 3 (fun j => if j = 0 then x else if j = 1 then y else z) (fun j => if j = 0 then X else if j = 1 then Y else Z) (W.alloc (.cells #[.slice x.a x.n x.c, .slice y.a y.n y.c, .slice z.a z.n z.c] 24)) (fun j hj => by
    rcases (show j = 0 ∨ j = 1 ∨ j = 2 by omega) with rfl | rfl | rfl
    · exact cell_lit W _ 24 0
    · exact cell_lit W _ 24 1
    · exact cell_lit W _ 24 2) (fun j hj => by
    rcases (show j = 0 ∨ j = 1 ∨ j = 2 by omega) with rfl | rfl | rfl
    · exact ⟨hx.1.q qa, hx.2⟩
    · exact ⟨hy.1.q qa, hy.2⟩
    · exact ⟨hz.1.q qa, hz.2⟩) (by omega) (by rw [e3]; simp only [List.length_append]; omega) (by rw [e3]; exact bx.app (by_.app bz))
  rw [e3] at D
  refine D.mono ?_
  rintro e w' ⟨rfl, q⟩
  exact ⟨rfl, qa.trans q⟩
theorem seg_lit3 (w : World) (x y z : Int) : Seg (w.alloc (.cells #[.int .u8 x, .int .u8 y, .int .u8 z] 5 (3, 4))) (some ⟨w.heap.size, 0, none⟩) [x, y, z] := by
  intro _
  refine ⟨w.heap.size, 0, rfl, fun i hi => ?_⟩
  have : i = 0 ∨ i = 1 ∨ i = 2 := by simp at hi; omega
  rcases this with rfl | rfl | rfl <;> (rw [cell_of_row _ _ _ _ 5 _ (heap_alloc_new w _)]; rfl)
set_option maxHeartbeats 8000000 in
theorem proof_any (sb : Nat) (S : Sh) (sd : List Int) (k : Sv) (ks : List Int) (w : World) (h : ShAt w sb S) (hs : Seg w S.said.a sd) (hl : sd.length = S.said.n) (hn : S.said.n ≤ 1000000) (hz : ByL sd) (hk : Seg w k.a ks) (hkl : ks.length = k.n) (hkn : k.n ≤ 1000) (hkz : ByL ks) (hdz : ByL (dg sd)) :
    Calls Try.prog 50 #[.pointer (some ⟨sb, 0, none⟩), .slice k.a k.n k.c] w fun e w' => ∃ g, e = .returned (.slice (some ⟨g, 0, none⟩) 16 16) ∧ Q w w' ∧ Seg w' (some ⟨g, 0, none⟩) (dg ([102, 105, 110] ++ (ks ++ dg sd))) ∧ w.heap.size ≤ g := by
  have q0 : Q w (w.alloc (.cells #[.int .u8 102, .int .u8 105, .int .u8 110] 5 (3, 4))) := (Q.refl w).alloc _
  have SU := hid (ssum_any sb S sd (w.alloc (.cells #[.int .u8 102, .int .u8 105, .int .u8 110] 5 (3, 4))) (h.keep (Keep.ofQ (F := fun _ => False) q0) id) (hs.q q0) hl hn hz)
  have HF := hid (seg_lit3 w 102 105 110)
  have Q0 := hid q0
  have HK := hid hk
  have HKL := hid hkl
  have HKN := hid hkn
  have HKZ := hid hkz
  have HDZ := hid hdz
  have HDL := hid (dg_len sd)
  clear h hs hl hn hz hk hkl hkn hkz hdz q0
  have kcv := Lib.run_convert_bytes_const (P := Try.prog) w 24 5 #[.int .u8 102, .int .u8 105, .int .u8 110] 3 3 Try.underlying24 Try.underlying5
  obtain ⟨ka, kn, kc⟩ := k
  dsimp only at *
  generalize dg sd = dd at *
  go_enter Try.func50, Try.ntmps50
  go_wp2_with fail
  refine SU.out.mono ?_
  rintro e w1 ⟨g1, rfl, q1, s1, hg1⟩
  have Q1 := hid (Q0.out.trans q1)
  have D3 := hid (dig3 w1 ⟨some ⟨w.heap.size, 0, none⟩, 3, 3⟩ ⟨ka, kn, kc⟩ ⟨some ⟨g1, 0, none⟩, 16, 16⟩ [102, 105, 110] ks dd ⟨HF.out.q q1, rfl⟩ ⟨HK.out.q Q1.out, HKL.out⟩ ⟨s1, HDL.out⟩ (by have h1 := HKL.out; have h2 := HKN.out; have h3 := HDL.out; show 3 + _ + _ ≤ _; omega) (by intro y hy; simp at hy; omega) HKZ.out HDZ.out)
  clear q1 s1 hg1
  dsimp only at D3
  have HD := hid (dg_len ([102, 105, 110] ++ (ks ++ dd)))
  generalize hds : dg ([102, 105, 110] ++ (ks ++ dd)) = ds at D3 HD
  have HDS := hid hds
  clear hds
  go_wp2_with fail
  refine D3.out.mono ?_
  rintro e w2 ⟨rfl, q2⟩
  have Q2 := hid (Q1.out.trans q2)
  clear q2
  have HZ := hid (heap_alloc_new w2 (.cells z16 63))
  have hi := arr_info ds HD.out
  have HS := hid (show z16.size = (u8s ds).toArray.size by simp [HD.out])
  go_wp2_with (refine wpList_store_row rfl 63 _ _ rfl w2.heap.size (u8s ds).toArray rfl rfl 63 _ HZ.out hi HS.out (arr_one ds) ?_; refine Hid.out ?_)
  refine hid ?_
  generalize hw3 : World.setRow _ _ _ = w3
  have b3 : w3.heap[w2.heap.size]? = some (.cells (u8s ds).toArray 63 (0, 0)) := by rw [← hw3]; exact setRow_heap _ _ _ _ 63 _ HZ.out
  have q3 : Q w2 w3 := by rw [← hw3]; exact (((Keep.refl (fun _ => False) w2).alloc _).setRow _ _ (.inr (Nat.le_refl _))).toQ (fun _ _ => id)
  have HX := hid (show Q w w3 ∧ Seg w3 (some ⟨w2.heap.size, 0, none⟩) ds ∧ w.heap.size ≤ w2.heap.size from ⟨Q2.out.trans q3, seg_arr b3, Q2.out.size⟩)
  clear hw3 q3
  generalize w2.heap.size = g at *
  go_wp2
  go_ret
  have hx := HX.out
  rw [← HDS.out] at hx
  exact ⟨g, rfl, hx⟩
end Go.Proofs.Ytekpepnonhbkcaa

/-
  What bytes.Equal and shake's checkFinished do: contracts that the statements' walks use.
-/
namespace Go.Proofs.Ytekpepnonhbkcaa
open Go.RowKit
set_option linter.unusedVariables false
set_option maxRecDepth 20000

def eqB (zs ys : List Int) : Bool := (strOfNums zs).toList == (strOfNums ys).toList
theorem str_of {w : World} {g o n c : Nat} {zs : List Int} (hs : Seg w (some ⟨g, o, none⟩) zs) (hl : zs.length = n) : (convert 24 9 (.slice (some ⟨g, o, none⟩) n c)).run Try.prog w = .ok (.string (strOfNums zs)) w := by
  refine run_convert_bytes_arg (P := Try.prog) w 24 5 Try.underlying24 Try.underlying5 g o n c zs hl (fun i hi => ?_) 9 (by kernel_rfl)
  have hne : zs ≠ [] := by intro e; rw [e] at hl; simp at hl; omega
  obtain ⟨b, off, e, hc⟩ := hs hne
  cases e
  exact hc i (by omega)
set_option maxHeartbeats 4000000 in
theorem equal_any (g1 o1 n1 c1 g2 o2 n2 c2 : Nat) (zs ys : List Int) (w : World) (h1 : Seg w (some ⟨g1, o1, none⟩) zs) (l1 : zs.length = n1) (h2 : Seg w (some ⟨g2, o2, none⟩) ys) (l2 : ys.length = n2) :
    Calls Try.prog 71 #[.slice (some ⟨g1, o1, none⟩) n1 c1, .slice (some ⟨g2, o2, none⟩) n2 c2] w fun e w' => e = .returned (.bool (eqB zs ys)) ∧ w = w' := by
  have e1 := str_of (c := c1) h1 l1
  have e2 := str_of (c := c2) h2 l2
  clear h1 h2 l1 l2
  unfold eqB
  generalize strOfNums zs = s at *
  generalize strOfNums ys = t at *
  generalize hb : (s.toList == t.toList) = b
  go_enter Try.func71, Try.ntmps71
  go_wp2
  go_ret
  exact ⟨rfl, rfl⟩
/-- What a finished is answered by. -/
def finE (ms ks sd : List Int) : Int := if ms.length ≠ 20 then 100 else if eqB (ms.drop 4) (dg ([102, 105, 110] ++ (ks ++ dg sd))) then 0 else 103
set_option maxHeartbeats 8000000 in
theorem checkFinished_any (sb : Nat) (S : Sh) (sd : List Int) (g off n c : Nat) (ms : List Int) (k : Sv) (ks : List Int) (w : World) (h : ShAt w sb S) (hs : Seg w S.said.a sd) (hl : sd.length = S.said.n) (hn : S.said.n ≤ 1000000) (hz : ByL sd) (hk : Seg w k.a ks) (hkl : ks.length = k.n) (hkn : k.n ≤ 1000) (hkz : ByL ks) (hdz : ByL (dg sd))
    (hm : Seg w (some ⟨g, off, none⟩) ms) (hml : ms.length = n) (h4 : 4 ≤ n) (hc : n ≤ c) :
    Calls Try.prog 52 #[.pointer (some ⟨sb, 0, none⟩), .slice (some ⟨g, off, none⟩) n c, .slice k.a k.n k.c] w fun e w' => e = .returned (.int .i64 (finE ms ks sd)) ∧ Q w w' := by
  have BO := hid (bodyOf_any (some ⟨g, off, none⟩) n c w h4)
  by_cases h20 : n = 20
  · subst h20
    have PR := hid (proof_any sb S sd k ks w h hs hl hn hz hk hkl hkn hkz hdz)
    rw [if_neg (by omega), Option.map_some, addr_add] at BO
    have hms : Seg w (some ⟨g, off + 4, none⟩) (ms.drop 4) := seg_drop hm 4
    have HMS := hid hms
    have HML := hid (show (ms.drop 4).length = 16 by rw [List.length_drop, hml])
    have HF := hid (show finE ms ks sd = if eqB (ms.drop 4) (dg ([102, 105, 110] ++ (ks ++ dg sd))) then 0 else 103 by unfold finE; rw [if_neg (by rw [hml]; decide)])
    have HDL := hid (dg_len ([102, 105, 110] ++ (ks ++ dg sd)))
    clear h hs hl hn hz hk hkl hkn hkz hdz hm hml h4 hms
    obtain ⟨ka, kn, kc⟩ := k
    dsimp only at *
    generalize finE ms ks sd = fe at *
    generalize dg ([102, 105, 110] ++ (ks ++ dg sd)) = ds at *
    generalize ms.drop 4 = bs at *
    go_enter Try.func52, Try.ntmps52
    go_wp2_with fail
    refine BO.out.mono ?_
    rintro e w1 ⟨rfl, rfl⟩
    go_wp2_with fail
    refine PR.out.mono ?_
    rintro e w1 ⟨g1, rfl, q1, s1, hg1⟩
    have EQ := hid (equal_any g (off + 4) 16 (c - 4) g1 0 16 16 bs ds w1 (HMS.out.q q1) HML.out s1 HDL.out)
    have Q1 := hid q1
    clear q1 s1 hg1
    go_wp2_with fail
    refine EQ.out.mono ?_
    rintro e w2 ⟨rfl, rfl⟩
    cases hE : eqB bs ds with
    | true =>
      have HE := hid hE
      clear hE
      go_wp2
      go_ret
      exact ⟨by rw [HF.out, HE.out]; rfl, Q1.out⟩
    | false =>
      have HE := hid hE
      clear hE
      go_wp2
      go_ret
      exact ⟨by rw [HF.out, HE.out]; rfl, Q1.out⟩
  · have HF := hid (show finE ms ks sd = 100 by unfold finE; rw [if_pos (by rw [hml]; exact h20)])
    have hne : ((n - 4 : Nat) : Int) ≠ 16 := by omega
    have hb : ((((n - 4 : Nat) : Int)) != 16) = true := by simpa using hne
    clear h hs hl hn hz hk hkl hkn hkz hdz hm hml h20 hne
    obtain ⟨ka, kn, kc⟩ := k
    dsimp only at *
    generalize finE ms ks sd = fe at *
    generalize (if c = 4 then some (⟨g, off, none⟩ : Addr) else (some (⟨g, off, none⟩ : Addr)).map (·.add 4)) = a' at *
    generalize n - 4 = n4 at *
    go_enter Try.func52, Try.ntmps52
    go_wp2_with fail
    refine BO.out.mono ?_
    rintro e w1 ⟨rfl, rfl⟩
    go_wp2
    go_ret
    exact ⟨by rw [HF.out]; rfl, Q.refl _⟩
end Go.Proofs.Ytekpepnonhbkcaa

/-
  What shake's secretsOf does: a contract that the statements' walks use.
-/
namespace Go.Proofs.Ytekpepnonhbkcaa
open Go.RowKit
set_option linter.unusedVariables false
set_option maxRecDepth 20000

theorem st_sec {o : Oper} {a : Act} {w : World} (x y : Operand) (g : Nat) (cs old : Array Value) (ho : o.op = .store 39 x y) (hx : a.eval x = .pointer (some ⟨g, 0, none⟩)) (hy : a.eval y = .agg cs) (hg : w.heap[g]? = some (.cells old 39 (0, 0))) (h2 : old.size = cs.size) (hi : (Try.prog.info? 39).map (·.size) = some cs.size) (h1 : cs.all (·.oneCell') = true) :
    (execOp a.eval o).run Try.prog w = .ok .skip (w.setRow g cs) := by
  have hl := run_storeVar_row (P := Try.prog) w g 39 39 old cs hg hi h2 h1
  unfold execOp
  simp only [ho, hx, hy, Instr.storeAt, Instr.sureAddr, Sem.run_bind, Sem.run_pure, Result.andThen_ok, hl]
section
variable {rb tb : Nat} {s1 s2 : ByteArray} {x0 x4 x5 x7 x8 x9 x10 x11 x12 x13 : Value} {w : World} {R : Exit → Act → World → Prop}
def c0 (rb : Nat) (s1 s2 : ByteArray) : List (Nat × Value) := [(0, .slice (some ⟨rb, 0, none⟩) 16 16), (1, .string s1), (3, .slice (some ⟨rb, 0, none⟩) 16 16), (4, .string s2)]
theorem c0c : Chn Try.prog (RofN Try.f70 1) (fun _ => True) (c0 rb s1 s2) (#[false, false, false, false, false, false, false, false] : Array Bool) (⟨#[x0, .string s1, .string s2, .pointer (some ⟨rb, 0, none⟩), x4, x5, .pointer (some ⟨tb, 0, none⟩), x7, x8, x9, x10, x11, x12, x13], []⟩ : Act) := ⟨⟨by kernel_rfl, by kernel_rfl, by kernel_rfl, by kernel_rfl, fun w h => by kernel_rfl⟩, ⟨by kernel_rfl, by kernel_rfl, by kernel_rfl, by kernel_rfl, fun w h => by kernel_rfl⟩, ⟨by kernel_rfl, by kernel_rfl, by kernel_rfl, by kernel_rfl, fun w h => by kernel_rfl⟩, ⟨by kernel_rfl, by kernel_rfl, by kernel_rfl, by kernel_rfl, fun w h => by kernel_rfl⟩, trivial⟩
set_option maxHeartbeats 8000000 in
theorem sec1 (X Y : List Int) (hT : ∀ u, Q w u → u.heap[tb]? = some (.cells #[.slice none 0 0, .slice none 0 0] 39 (0, 0)))
    (h1 : ∀ u, Q w u → Calls Try.prog 81 #[.slice (some ⟨rb, 0, none⟩) 16 16, .string s1] u fun e w' => ∃ x : Sv, e = .returned (.slice x.a x.n x.c) ∧ Q u w' ∧ Row w' x X) (h2 : ∀ u, Q w u → Calls Try.prog 81 #[.slice (some ⟨rb, 0, none⟩) 16 16, .string s2] u fun e w' => ∃ x : Sv, e = .returned (.slice x.a x.n x.c) ∧ Q u w' ∧ Row w' x Y)
    (hQ : ∀ c a d v w, R (.panic c) (a.put d v) w → R (.panic c) a w)
    (hE : ∀ (a b : Sv) (v : World), Q w v → Row v a X → Row v b Y → R .normal (⟨#[x0, .string s1, .string s2, .pointer (some ⟨rb, 0, none⟩), x4, x5, .pointer (some ⟨tb, 0, none⟩), .slice (some ⟨rb, 0, none⟩) 16 16, .string s1, .slice a.a a.n a.c, .slice (some ⟨rb, 0, none⟩) 16 16, .string s2, .slice b.a b.n b.c, .agg #[.slice a.a a.n a.c, .slice b.a b.n b.c]], []⟩ : Act) (v.setRow tb #[.slice a.a a.n a.c, .slice b.a b.n b.c])) :
    (Code.region 1 (RofN Try.f70 1) true).wp Try.prog R (⟨#[x0, .string s1, .string s2, .pointer (some ⟨rb, 0, none⟩), x4, x5, .pointer (some ⟨tb, 0, none⟩), x7, x8, x9, x10, x11, x12, x13], []⟩ : Act) w := by
  refine wp_region_held (S := (fun _ => True)) (by kernel_rfl) ?_
  have hsz : (RofN Try.f70 1).size = 8 := by kernel_rfl
  rw [hsz]
  have q0 : Q w w.drew := (Q.refl w).drew
  refine chn_take (by kernel_rfl) hQ trivial 4 (c0 rb s1 s2) _ _ c0c ?_
  have e0 : putL (RofN Try.f70 1) (c0 rb s1 s2) (⟨#[x0, .string s1, .string s2, .pointer (some ⟨rb, 0, none⟩), x4, x5, .pointer (some ⟨tb, 0, none⟩), x7, x8, x9, x10, x11, x12, x13], []⟩ : Act) = (⟨#[x0, .string s1, .string s2, .pointer (some ⟨rb, 0, none⟩), x4, x5, .pointer (some ⟨tb, 0, none⟩), .slice (some ⟨rb, 0, none⟩) 16 16, .string s1, x9, .slice (some ⟨rb, 0, none⟩) 16 16, .string s2, x12, x13], []⟩ : Act) := by kernel_rfl
  have l0 : setL (c0 rb s1 s2) (Array.replicate 8 false) = (#[true, true, false, true, true, false, false, false] : Array Bool) := by kernel_rfl
  rw [e0, l0]
  clear e0 l0
  have hc : (execOp (⟨#[x0, .string s1, .string s2, .pointer (some ⟨rb, 0, none⟩), x4, x5, .pointer (some ⟨tb, 0, none⟩), .slice (some ⟨rb, 0, none⟩) 16 16, .string s1, x9, .slice (some ⟨rb, 0, none⟩) 16 16, .string s2, x12, x13], []⟩ : Act).eval (((RofN Try.f70 1)[2]?).getD default)).run Try.prog w.drew = .ok (.enter 81 #[.slice (some ⟨rb, 0, none⟩) 16 16, .string s1]) w.drew := by kernel_rfl
  refine wpAnyH_one (i := 2) (by kernel_rfl) ?_
  refine wpOp_callx (some 9) (by kernel_rfl) (by kernel_rfl) (by kernel_rfl) 81 #[.slice (some ⟨rb, 0, none⟩) 16 16, .string s1] hc (h1 _ q0) ?_
  clear hc
  rintro e w1 ⟨a, rfl, q1, r1⟩
  have p1 := q0.trans q1
  refine ⟨_, rfl, trivial, ?_⟩
  have e0 : (⟨#[x0, .string s1, .string s2, .pointer (some ⟨rb, 0, none⟩), x4, x5, .pointer (some ⟨tb, 0, none⟩), .slice (some ⟨rb, 0, none⟩) 16 16, .string s1, x9, .slice (some ⟨rb, 0, none⟩) 16 16, .string s2, x12, x13], []⟩ : Act).put (some 9) (.slice a.a a.n a.c) = (⟨#[x0, .string s1, .string s2, .pointer (some ⟨rb, 0, none⟩), x4, x5, .pointer (some ⟨tb, 0, none⟩), .slice (some ⟨rb, 0, none⟩) 16 16, .string s1, .slice a.a a.n a.c, .slice (some ⟨rb, 0, none⟩) 16 16, .string s2, x12, x13], []⟩ : Act) := by kernel_rfl
  have l0 : (#[true, true, false, true, true, false, false, false] : Array Bool).setIfInBounds 2 true = (#[true, true, true, true, true, false, false, false] : Array Bool) := by kernel_rfl
  rw [e0, l0]
  clear e0 l0
  have hc : (execOp (⟨#[x0, .string s1, .string s2, .pointer (some ⟨rb, 0, none⟩), x4, x5, .pointer (some ⟨tb, 0, none⟩), .slice (some ⟨rb, 0, none⟩) 16 16, .string s1, .slice a.a a.n a.c, .slice (some ⟨rb, 0, none⟩) 16 16, .string s2, x12, x13], []⟩ : Act).eval (((RofN Try.f70 1)[5]?).getD default)).run Try.prog w1 = .ok (.enter 81 #[.slice (some ⟨rb, 0, none⟩) 16 16, .string s2]) w1 := by kernel_rfl
  refine wpAnyH_one (i := 5) (by kernel_rfl) ?_
  refine wpOp_callx (some 12) (by kernel_rfl) (by kernel_rfl) (by kernel_rfl) 81 #[.slice (some ⟨rb, 0, none⟩) 16 16, .string s2] hc (h2 _ p1) ?_
  clear hc
  rintro e w2 ⟨b, rfl, q2, r2⟩
  have p2 := p1.trans q2
  refine ⟨_, rfl, trivial, ?_⟩
  have e0 : (⟨#[x0, .string s1, .string s2, .pointer (some ⟨rb, 0, none⟩), x4, x5, .pointer (some ⟨tb, 0, none⟩), .slice (some ⟨rb, 0, none⟩) 16 16, .string s1, .slice a.a a.n a.c, .slice (some ⟨rb, 0, none⟩) 16 16, .string s2, x12, x13], []⟩ : Act).put (some 12) (.slice b.a b.n b.c) = (⟨#[x0, .string s1, .string s2, .pointer (some ⟨rb, 0, none⟩), x4, x5, .pointer (some ⟨tb, 0, none⟩), .slice (some ⟨rb, 0, none⟩) 16 16, .string s1, .slice a.a a.n a.c, .slice (some ⟨rb, 0, none⟩) 16 16, .string s2, .slice b.a b.n b.c, x13], []⟩ : Act) := by kernel_rfl
  have l0 : (#[true, true, true, true, true, false, false, false] : Array Bool).setIfInBounds 5 true = (#[true, true, true, true, true, true, false, false] : Array Bool) := by kernel_rfl
  rw [e0, l0]
  clear e0 l0
  have hc : (execOp (⟨#[x0, .string s1, .string s2, .pointer (some ⟨rb, 0, none⟩), x4, x5, .pointer (some ⟨tb, 0, none⟩), .slice (some ⟨rb, 0, none⟩) 16 16, .string s1, .slice a.a a.n a.c, .slice (some ⟨rb, 0, none⟩) 16 16, .string s2, .slice b.a b.n b.c, x13], []⟩ : Act).eval (((RofN Try.f70 1)[6]?).getD default)).run Try.prog w2 = .ok (.value (.agg #[.slice a.a a.n a.c, .slice b.a b.n b.c])) w2 := by kernel_rfl
  refine wpAnyH_one (i := 6) (by kernel_rfl) ?_
  refine wpOp_val (some 13) (by kernel_rfl) (by kernel_rfl) (by kernel_rfl) hc ?_
  clear hc
  refine ⟨trivial, ?_⟩
  have e0 : (⟨#[x0, .string s1, .string s2, .pointer (some ⟨rb, 0, none⟩), x4, x5, .pointer (some ⟨tb, 0, none⟩), .slice (some ⟨rb, 0, none⟩) 16 16, .string s1, .slice a.a a.n a.c, .slice (some ⟨rb, 0, none⟩) 16 16, .string s2, .slice b.a b.n b.c, x13], []⟩ : Act).put (some 13) (.agg #[.slice a.a a.n a.c, .slice b.a b.n b.c]) = (⟨#[x0, .string s1, .string s2, .pointer (some ⟨rb, 0, none⟩), x4, x5, .pointer (some ⟨tb, 0, none⟩), .slice (some ⟨rb, 0, none⟩) 16 16, .string s1, .slice a.a a.n a.c, .slice (some ⟨rb, 0, none⟩) 16 16, .string s2, .slice b.a b.n b.c, .agg #[.slice a.a a.n a.c, .slice b.a b.n b.c]], []⟩ : Act) := by kernel_rfl
  have l0 : (#[true, true, true, true, true, true, false, false] : Array Bool).setIfInBounds 6 true = (#[true, true, true, true, true, true, true, false] : Array Bool) := by kernel_rfl
  rw [e0, l0]
  clear e0 l0
  have hc := st_sec (o := ((RofN Try.f70 1)[7]?).getD default) (a := (⟨#[x0, .string s1, .string s2, .pointer (some ⟨rb, 0, none⟩), x4, x5, .pointer (some ⟨tb, 0, none⟩), .slice (some ⟨rb, 0, none⟩) 16 16, .string s1, .slice a.a a.n a.c, .slice (some ⟨rb, 0, none⟩) 16 16, .string s2, .slice b.a b.n b.c, .agg #[.slice a.a a.n a.c, .slice b.a b.n b.c]], []⟩ : Act)) (w := w2) (.tmp 6) (.tmp 13) tb #[.slice a.a a.n a.c, .slice b.a b.n b.c] _ (by kernel_rfl) (by kernel_rfl) (by kernel_rfl) (hT w2 p2) rfl (by kernel_rfl) (by kernel_rfl)
  refine wpAnyH_one (i := 7) (by kernel_rfl) ?_
  refine wpOp_skip none (by kernel_rfl) (by kernel_rfl) (by kernel_rfl) hc ?_
  clear hc
  refine ⟨trivial, ?_⟩
  have e0 : (⟨#[x0, .string s1, .string s2, .pointer (some ⟨rb, 0, none⟩), x4, x5, .pointer (some ⟨tb, 0, none⟩), .slice (some ⟨rb, 0, none⟩) 16 16, .string s1, .slice a.a a.n a.c, .slice (some ⟨rb, 0, none⟩) 16 16, .string s2, .slice b.a b.n b.c, .agg #[.slice a.a a.n a.c, .slice b.a b.n b.c]], []⟩ : Act).put none undef = (⟨#[x0, .string s1, .string s2, .pointer (some ⟨rb, 0, none⟩), x4, x5, .pointer (some ⟨tb, 0, none⟩), .slice (some ⟨rb, 0, none⟩) 16 16, .string s1, .slice a.a a.n a.c, .slice (some ⟨rb, 0, none⟩) 16 16, .string s2, .slice b.a b.n b.c, .agg #[.slice a.a a.n a.c, .slice b.a b.n b.c]], []⟩ : Act) := by kernel_rfl
  have l0 : (#[true, true, true, true, true, true, true, false] : Array Bool).setIfInBounds 7 true = (#[true, true, true, true, true, true, true, true] : Array Bool) := by kernel_rfl
  rw [e0, l0]
  clear e0 l0
  refine wpAnyH_done (by kernel_rfl) ?_ _
  exact hE a b w2 p2 (Sub.q r1 q2) r2
end
end Go.Proofs.Ytekpepnonhbkcaa

/-
  What shake's secretsOf and takeClientFinished do: contracts that the statements' walks use.
-/
namespace Go.Proofs.Ytekpepnonhbkcaa
open Go.RowKit
set_option linter.unusedVariables false
set_option maxRecDepth 20000

theorem ret_sec {fn : Func} {p : Tmp} {a : Act} {w : World} {R : Ending → World → Prop} (hr : fn.results = #[.cell p 39]) (hd : a.defers = [])
    (g : Nat) (cs : Array Value) (hi : (Try.prog.info? 39).map (·.size) = some cs.size) (hp : a.tmps.getD p undef = .pointer (some ⟨g, 0, none⟩)) (hb : w.heap[g]? = some (.cells cs 39 (0, 0))) (hR : R (.returned (.agg cs)) w) : bodyPost Try.prog fn R .ret a w :=
  ⟨hd, _, results_cell_row hr _ w g 39 _ (0, 0) _ hp hb Try.underlying39 rfl hi, hR⟩
set_option maxHeartbeats 8000000 in
theorem secretsOf_any (rs : List Int) (s1 s2 : ByteArray) (w : World) (hl : rs.length = 16) (hz : ByL rs) (h1 : s1.size ≤ 255) (h2 : s2.size ≤ 255) :
    Calls Try.prog 70 #[arr rs, .string s1, .string s2] w fun e w' => ∃ a b : Sv, e = .returned (.agg #[.slice a.a a.n a.c, .slice b.a b.n b.c]) ∧ Q w w' ∧ Row w' a (expR rs (sb s1) 16) ∧ Row w' b (expR rs (sb s2) 16) := by
  have HL := hid hl
  have HZ := hid hz
  have H1 := hid h1
  have H2 := hid h2
  clear hl hz h1 h2
  go_enter Try.func70, Try.ntmps70
  go_upto_region 1 with fail
  generalize hw1 : World.alloc (World.alloc w _) _ = w1
  have B1 := hid (show w1.heap[w.heap.size]? = some (.cells (u8s rs).toArray 63 (0, 0)) from by rw [← hw1]; exact (Below.block ((Q.refl _).alloc _) _ (by simp)).trans (heap_alloc_new w _))
  have T1 := hid (show w1.heap[w.heap.size + 1]? = some (.cells #[.slice none 0 0, .slice none 0 0] 39 (0, 0)) from by
    rw [← hw1]
    have e : (w.alloc (.cells (u8s rs).toArray 63)).heap.size = w.heap.size + 1 := by simp
    rw [← e]; exact heap_alloc_new _ _)
  have Q1 := hid (show Q w w1 from by rw [← hw1]; exact ((Q.refl w).alloc _).alloc _)
  clear hw1
  generalize hrb : w.heap.size = rb at *
  have HRB := hid hrb
  clear hrb
  generalize hR : Code.region 1 _ true = C
  have eR : C = Code.region 1 (RofN Try.f70 1) true := hR.symm.trans (by kernel_rfl)
  clear hR
  subst eR
  refine wp_region_noPanic ?_
  have IN : ∀ u, Q w1 u → In u ⟨some ⟨rb, 0, none⟩, 16, 16⟩ rs := fun u q => ⟨seg_arr ((Below.block q _ (lt_of_block B1.out)).trans B1.out), HL.out, HZ.out⟩
  refine sec1 (expR rs (sb s1) 16) (expR rs (sb s2) 16) (fun u q => (Below.block q _ (lt_of_block T1.out)).trans T1.out) (fun u q => sexpand_any ⟨some ⟨rb, 0, none⟩, 16, 16⟩ rs s1 u (IN u q) (by show 16 ≤ _; omega) H1.out) (fun u q => sexpand_any ⟨some ⟨rb, 0, none⟩, 16, 16⟩ rs s2 u (IN u q) (by show 16 ≤ _; omega) H2.out) (fun c a d v w h => h) (fun a b v qv ra rb' => ?_)
  refine NoPanic.normal ?_
  rename_i Kc hKc
  refine hKc _ _ ?_
  clear hKc
  have t1 : v.heap[rb + 1]? = some (.cells #[.slice none 0 0, .slice none 0 0] 39 (0, 0)) := (Below.block qv _ (lt_of_block T1.out)).trans T1.out
  have hne : ∀ {x : Sv} {zs : List Int}, Row v x zs → ∀ c, blk x.a = some c → ¬ c = rb + 1 := by
    intro x zs h c e e2
    subst e2
    rcases h.2 with ⟨h1, _⟩ | ⟨g, off, cur, h1, hg, _⟩
    · rw [h1] at e; cases e
    · rw [h1] at e
      simp only [blk, Option.map_some, Option.some.injEq] at e
      rw [e, t1] at hg
      simp at hg
  have k2 : Keep (fun c => c = rb + 1) v (v.setRow (rb + 1) #[.slice a.a a.n a.c, .slice b.a b.n b.c]) := (Keep.refl _ v).setRow _ _ (.inl rfl)
  have HX := hid (show Q w (v.setRow (rb + 1) #[.slice a.a a.n a.c, .slice b.a b.n b.c]) ∧ Row (v.setRow (rb + 1) #[.slice a.a a.n a.c, .slice b.a b.n b.c]) a (expR rs (sb s1) 16) ∧ Row (v.setRow (rb + 1) #[.slice a.a a.n a.c, .slice b.a b.n b.c]) b (expR rs (sb s2) 16) from
    ⟨k2.below (Q1.out.trans qv) (Q1.out.trans qv).size (fun i e => by have := HRB.out; omega), Sub.keep ra k2 (hne ra), Sub.keep rb' k2 (hne rb')⟩)
  have b2 : (v.setRow (rb + 1) #[.slice a.a a.n a.c, .slice b.a b.n b.c]).heap[rb + 1]? = some (.cells #[.slice a.a a.n a.c, .slice b.a b.n b.c] 39 (0, 0)) := setRow_heap _ _ _ _ 39 _ t1
  clear hne k2 t1 ra rb' qv IN
  generalize v.setRow (rb + 1) #[.slice a.a a.n a.c, .slice b.a b.n b.c] = v2 at *
  go_wp2
  refine ret_sec rfl rfl (rb + 1) _ (by kernel_rfl) rfl b2 ⟨a, b, rfl, HX.out⟩
end Go.Proofs.Ytekpepnonhbkcaa
namespace Go.Proofs.Ytekpepnonhbkcaa
open Go.RowKit
set_option linter.unusedVariables false
set_option maxRecDepth 20000

theorem ShAt.handC {w : World} {sb : Nat} {S : Sh} (h : ShAt w sb S) : w.cell? ⟨sb, 56, none⟩ = some (.slice S.handC.a S.handC.n S.handC.c) := by rw [h.cell, show 56 = 56 + 0 from rfl, S.end_ h.own h.root]; rfl
theorem ShAt.handS {w : World} {sb : Nat} {S : Sh} (h : ShAt w sb S) : w.cell? ⟨sb, 57, none⟩ = some (.slice S.handS.a S.handS.n S.handS.c) := by rw [h.cell, show 57 = 56 + 1 from rfl, S.end_ h.own h.root]; rfl
set_option maxHeartbeats 4000000 in
theorem takeClientFinished_any (sb : Nat) (S : Sh) (sd : List Int) (g off n c : Nat) (ms ks : List Int) (w : World) (h : ShAt w sb S) (hs : Seg w S.said.a sd) (hl : sd.length = S.said.n) (hn : S.said.n ≤ 1000000) (hz : ByL sd) (hk : Seg w S.handC.a ks) (hkl : ks.length = S.handC.n) (hkn : S.handC.n ≤ 1000) (hkz : ByL ks) (hdz : ByL (dg sd))
    (hm : Seg w (some ⟨g, off, none⟩) ms) (hml : ms.length = n) (h4 : 4 ≤ n) (hc : n ≤ c) :
    Calls Try.prog 31 #[.pointer (some ⟨sb, 0, none⟩), .slice (some ⟨g, off, none⟩) n c] w fun e w' => e = .returned (.int .i64 (finE ms ks sd)) ∧ Q w w' := by
  have cc := h.handC
  have CF := hid (checkFinished_any sb S sd g off n c ms S.handC ks w h hs hl hn hz hk hkl hkn hkz hdz hm hml h4 hc)
  clear h hs hl hn hz hk hkl hkn hkz hdz hm hml h4 hc
  generalize S.handC = kv at *
  obtain ⟨ka, kn, kc⟩ := kv
  dsimp only at *
  generalize finE ms ks sd = fe at *
  go_enter Try.func31, Try.ntmps31
  go_wp2_with fail
  refine CF.out.mono ?_
  rintro e w1 ⟨rfl, q1⟩
  have HQ := hid q1
  clear q1
  go_wp2
  go_ret
  exact ⟨rfl, HQ.out⟩
end Go.Proofs.Ytekpepnonhbkcaa
