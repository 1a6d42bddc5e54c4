/-
  What shake's clientHello does: a contract that the statements' walks use.
-/
import Derived.Test.YtekpepnonhbkcaaChR
import Derived.Test.YtekpepnonhbkcaaExM
import Derived.Laws.Rows
import Derived.Deep.Cut
import Derived.Deep.CutRange
namespace Go.Proofs.Ytekpepnonhbkcaa
open Go.RowKit
set_option linter.unusedVariables false
set_option maxRecDepth 20000

/-- Protos behind their number, each behind its length. -/
def ptB (ss : List ByteArray) : List Int := ss.flatMap fun s => be 1 (s.size : Int) ++ sb s
def ptL (ss : List ByteArray) : List Int := [(ss.length : Int)] ++ ptB ss
def chL (rs : List Int) (pv : Int) (ss : List ByteArray) (ps : List Int) : List Int := msgL 1 (grL rs pv ++ (ptL ss ++ (be 2 (ps.length : Int) ++ ps)))
theorem ptB_snoc (ss : List ByteArray) (k : Nat) (hk : k < ss.length) : ptB (ss.take (k + 1)) = ptB (ss.take k) ++ (be 1 ((ss.getD k ByteArray.empty).size : Int) ++ sb (ss.getD k ByteArray.empty)) := by
  unfold ptB
  rw [List.take_add_one, List.getElem?_eq_getElem hk, Option.toList_some, List.flatMap_append, List.flatMap_singleton, List.getD_eq_getElem?_getD, List.getElem?_eq_getElem hk]
  rfl
theorem okTs_iff {ss : List ByteArray} (h : okTs ss = true) : 1 ≤ ss.length ∧ ss.length ≤ 8 ∧ ∀ s ∈ ss, 1 ≤ s.size ∧ s.size ≤ 32 := by
  simp [okTs, okT] at h
  exact ⟨h.1.1, h.1.2, fun s hs => h.2 s hs⟩
theorem ptB_len {ss : List ByteArray} (h : ∀ s ∈ ss, s.size ≤ 32) : (ptB ss).length ≤ 33 * ss.length := by
  induction ss with
  | nil => simp [ptB]
  | cons s r ih =>
    have h1 := h s (by simp)
    have h2 := ih (fun x hx => h x (by simp [hx]))
    rw [show ptB (s :: r) = (be 1 (s.size : Int) ++ sb s) ++ ptB r from rfl, List.length_append, List.length_append, be_length, sb_len, List.length_cons]
    omega
theorem build3 (kind : Int) (W : World) (x y z : Sv) (X Y Z : List Int) (hx : Seg W x.a X ∧ X.length = x.n) (hy : Seg W y.a Y ∧ Y.length = y.n) (hz : Seg W z.a Z ∧ Z.length = z.n) (hb : X.length + Y.length + Z.length ≤ 800000) :
    Calls Try.prog 36 #[.int .u8 kind, .slice (some ⟨W.heap.size, 0, none⟩) 3 3] (W.alloc (.cells #[.slice x.a x.n x.c, .slice y.a y.n y.c, .slice z.a z.n z.c] 24)) fun e w' => ∃ t : Sv, e = .returned (.slice t.a t.n t.c) ∧ Q W w' ∧ Row w' t (msgL kind (X ++ (Y ++ Z))) := by
  have e3 : cat (fun j => if j = 0 then X else if j = 1 then Y else Z) 3 = X ++ (Y ++ Z) := by simp [cat]
  have qa : Q W (W.alloc (.cells #[.slice x.a x.n x.c, .slice y.a y.n y.c, .slice z.a z.n z.c] 24)) := (Q.refl W).alloc _
  refine (build_any kind W.heap.size 3 3 (fun j => if j = 0 then x else if j = 1 then y else z) (fun j => if j = 0 then X else if j = 1 then Y else Z) _ (fun j hj => ?_) (fun j hj => ?_) (by omega) (by rw [e3]; simp only [List.length_append]; omega)).mono ?_
  · rw [cell_of_row _ W.heap.size j _ 24 (0, 0) (heap_alloc_new W _)]
    rcases (show j = 0 ∨ j = 1 ∨ j = 2 by omega) with rfl | rfl | rfl <;> rfl
  · rcases (show j = 0 ∨ j = 1 ∨ j = 2 by omega) with rfl | rfl | rfl
    · exact ⟨hx.1.q qa, hx.2⟩
    · exact ⟨hy.1.q qa, hy.2⟩
    · exact ⟨hz.1.q qa, hz.2⟩
  · rintro e w' ⟨t, rfl, q, r⟩
    rw [e3] at r
    exact ⟨t, rfl, qa.trans q, r⟩
theorem hdrew {W : World} {b : Nat} {o : Option Obj} (h : W.heap[b]? = o) : W.drew.heap[b]? = o := h
theorem hdrewN {W : World} {b n : Nat} {o : Option Obj} (h : W.heap[b]? = o) : (W.drewN n).heap[b]? = o := h
theorem halloc {W : World} {b : Nat} {o x : Obj} (h : W.heap[b]? = some o) : (W.alloc x).heap[b]? = some o := (Below.block ((Q.refl W).alloc x) _ (lt_of_block h)).trans h
theorem row_one (w : World) (x : Int) : Row (w.alloc (.cells #[.int .u8 x] 5)) ⟨some ⟨w.heap.size, 0, none⟩, 1, 1⟩ [x] :=
  ⟨rfl, .inr ⟨w.heap.size, 0, _, rfl, heap_alloc_new w _, Nat.le_refl _, by show 1 ≤ _; unfold maxLen; omega, by simp, fun j hj => by rw [Nat.zero_add, List.getElem?_toArray]; rfl⟩⟩
/-- The loop's state. -/
structure HlI (w wr : World) (cb : Nat) (sv : Bool) (rs : List Int) (pv : Int) (t p x : Sv) (zs : List Int) : Prop where
  q : Q w wr
  b : CB wr cb sv rs pv t p
  r : Row wr x zs
  n : New w.heap.size x
  d : ∀ b, blk x.a = some b → b ≠ cb
set_option maxHeartbeats 16000000 in
theorem clientHello_any (sv : Bool) (rs : List Int) (pv : Int) (t p : Sv) (ss : List ByteArray) (ps : List Int) (w : World) (hl : rs.length = 32) (hpv : pv ≤ 9223372036854775807) (ht : SegT w t.a ss) (htl : ss.length = t.n) (hp : Seg w p.a ps) (hpl : ps.length = p.n) (ok : okTs ss = true) (hpn : p.n ≤ 1024) :
    Calls Try.prog 26 #[.agg (ccells sv rs pv t p).toArray] w fun e w' => ∃ x : Sv, e = .returned (.slice x.a x.n x.c) ∧ Q w w' ∧ Row w' x (chL rs pv ss ps) := by
  obtain ⟨ta, tn, tc⟩ := t
  obtain ⟨pa, pn, pc⟩ := p
  dsimp only at htl hpl hpn ht hp
  have HL := hid hl
  have HT := hid ht
  have HP := hid hp
  have LT := hid htl
  have LP := hid hpl
  have HK := hid (okTs_iff ok)
  have GR := hid (fun u => greeting_any sv rs pv ⟨ta, tn, tc⟩ ⟨pa, pn, pc⟩ u hl hpv)
  have hnb : tn ≤ 8 := by have := HK.out.2.1; omega
  have hw8 : IntKind.u8.wrap (tn : Int) = (tn : Int) := by simp only [IntKind.wrap, IntKind.bits, IntKind.signed]; simp; omega
  have HPN := hid hpn
  clear hl hpv ht htl hp hpl ok hpn
  go_enter Try.func26, Try.ntmps26
  go_upto_region 1 with fail
  generalize hw1 : World.alloc w _ = v1
  have q1 : Q w v1 := by rw [← hw1]; exact (Q.refl w).alloc _
  have b1 : CB v1 w.heap.size sv rs pv ⟨ta, tn, tc⟩ ⟨pa, pn, pc⟩ := by rw [← hw1]; exact heap_alloc_new w _
  clear hw1
  generalize hcb : w.heap.size = cb at *
  have HCB := hid hcb
  clear hcb
  have Q1 := hid q1
  have B1 := hid b1
  have c34 := b1.c34 HL.out
  dsimp only at c34
  clear q1 b1
  have HR0 := hid (row_one v1 (tn : Int))
  go_upto_region 2 with fail
  generalize hw2 : World.alloc v1 _ = v2
  have q2 : Q v1 v2 := by rw [← hw2]; exact (Q.refl v1).alloc _
  have HR2 := hid (show Row v2 ⟨some ⟨v1.heap.size, 0, none⟩, 1, 1⟩ ([(ss.length : Int)] ++ ptB (ss.take 0)) from by rw [← hw2, LT.out]; exact HR0.out)
  have Q2 := hid (Q1.out.trans q2)
  have B2 := hid (B1.out.q q2)
  clear hw2 HR0 q2 c34
  have HN2 := hid (show New w.heap.size ⟨some ⟨v1.heap.size, 0, none⟩, 1, 1⟩ from fun b e => by cases e; exact Q1.out.size)
  have HNC := hid (show ∀ b, blk (some (⟨v1.heap.size, 0, none⟩ : Addr)) = some b → b ≠ cb from fun b e => by simp only [blk, Option.map_some, Option.some.injEq] at e; have := lt_of_block B1.out; omega)
  generalize v1.heap.size = pb at *
  have c34 := B2.out.c34 HL.out
  dsimp only at c34
  go_wp2
  go_loopw [3, 14] (fun pr i wr => ∃ (k : Nat) (x : Sv), k ≤ tn ∧ i = .int .i64 k ∧ pr = .slice x.a x.n x.c ∧ HlI w wr cb sv rs pv ⟨ta, tn, tc⟩ ⟨pa, pn, pc⟩ x ([(ss.length : Int)] ++ ptB (ss.take k))) (fun _ i _ => ((tn : Int) - intOf i).toNat)
  case atStart => exact ⟨0, ⟨some ⟨pb, 0, none⟩, 1, 1⟩, Nat.zero_le _, rfl, rfl, Q2.out, B2.out, HR2.out, HN2.out, HNC.out⟩
  case round =>
    obtain ⟨k, ⟨xa, xn, xc⟩, hk, rfl, rfl, hI⟩ := hrel
    have HI := hid hI
    clear hI
    dsimp only
    by_cases hkt : k < tn
    · have hkl : k < ss.length := by rw [LT.out]; exact hkt
      obtain ⟨tb, to_, hta, hc⟩ := (HT.out.q HI.out.q) (by intro e; rw [e] at hkl; cases hkl)
      subst hta
      have hck := hc k hkl
      have hsz := HK.out.2.2 (ss.getD k ByteArray.empty) (by rw [List.getD_eq_getElem?_getD, List.getElem?_eq_getElem hkl]; exact List.getElem_mem _)
      have HSN := hid (ptB_snoc ss k hkl)
      have HPL := hid (ptB_len (ss := ss.take k) (fun x hx => (HK.out.2.2 x (List.mem_of_mem_take hx)).2))
      generalize ss.getD k ByteArray.empty = str at *
      clear hc
      have hki : (k : Int) < (tn : Int) := by omega
      have hk0 : (0 : Int) ≤ (k : Int) := by omega
      obtain ⟨cc, w5, hcv, q5, i5⟩ := conv_any str wr
      have Q5 := hid q5
      have I5 := hid i5
      have HSZ := hid hsz
      clear q5 i5 hsz
      go_wp2_with fail
      have SZ := sized_any' ⟨some ⟨wr.heap.size, 0, none⟩, str.size, cc⟩ (sb str) 1 w5 ⟨I5.out.s, sb_len str⟩ (by omega) (by omega) (by have := HSZ.out; show str.size ≤ _; omega)
      dsimp only at SZ
      refine SZ.mono ?_
      clear SZ
      rintro e w6 ⟨⟨ya, yn, yc⟩, rfl, q6, r6⟩
      have Q6 := hid (HI.out.q.trans (Q5.out.trans q6))
      have P6 := hid (Q5.out.trans q6)
      have hyl := Row.len r6
      have hxl := Row.len HI.out.r
      rw [List.length_append, be_length, sb_len] at hyl
      rw [List.length_append, List.length_singleton] at hxl
      dsimp only at hyl hxl
      have hpl := HPL.out
      rw [List.length_take] at hpl
      have hs32 := HSZ.out.2
      obtain ⟨⟨za, zn, zc⟩, w7, hrun, hrow, hkp, hb⟩ := row_append (ty := 24) (d := ⟨xa, xn, xc⟩) (x := .slice ya yn yc) (m := yn) (ys := be 1 (str.size : Int) ++ sb str) (HI.out.r.q P6.out) (src_seg r6.seg (Row.len r6)) (by dsimp only; omega)
      have hns := new_step (x := ⟨xa, xn, xc⟩) (y := ⟨za, zn, zc⟩) rfl Q6.out HI.out.n hkp hb
      have REL := hid (show HlI w w7 cb sv rs pv ⟨some ⟨tb, to_, none⟩, tn, tc⟩ ⟨pa, pn, pc⟩ ⟨za, zn, zc⟩ ([(ss.length : Int)] ++ ptB (ss.take (k + 1))) from
        ⟨hns.1, (hkp.block cb (lt_of_block (HI.out.b.q P6.out)) (fun e => HI.out.d cb e rfl)).trans (HI.out.b.q P6.out), by rw [HSN.out, ← List.append_assoc]; exact hrow, hns.2, fun b e e2 => by
          rcases hb with h | h
          · exact HI.out.d b (by rw [← h]; exact e) e2
          · rw [h] at e
            have h1 := lt_of_block (HI.out.b.q P6.out)
            simp only [Option.some.injEq] at e
            omega⟩)
      dsimp only at hrun
      clear q6 r6 hrow hkp hb hns hyl hxl hpl hs32 hcv
      go_wp2_with (at_builtin; refine Lib.wpList_append_run _ rfl _ _ _ _ rfl _ _ rfl rfl _ _ hrun ?_)
      go_roundw
      case rel => exact ⟨k + 1, ⟨za, zn, zc⟩, by omega, by go_num, rfl, REL.out⟩
      case measure => simp [intOf]; omega
    · obtain rfl : k = tn := by omega
      have HTK := hid (show ss.take k = ss from List.take_of_length_le (by rw [LT.out]; exact Nat.le_refl _))
      have hS := (show SC wr cb (ccells sv rs pv ⟨ta, k, tc⟩ ⟨pa, pn, pc⟩).toArray ⟨pa, pn, pc⟩ wr from ⟨Q.refl _, HI.out.b, by rw [List.size_toArray]; exact ccells_len HL.out, HI.out.b.c35 HL.out⟩)
      have HS := hid hS
      clear hS
      have HXL := hid (show (ptL ss).length ≤ 300 from by
        have h1 := ptB_len (ss := ss) (fun x hx => (HK.out.2.2 x hx).2)
        have h2 := HK.out.2.1
        unfold ptL
        rw [List.length_append, List.length_singleton]
        omega)
      have HXR := hid (show Row wr ⟨xa, xn, xc⟩ (ptL ss) from by
        have h := HI.out.r
        rw [HTK.out] at h
        exact h)
      go_wp2_with fail
      generalize hR : Code.region 7 _ true = C
      have eR : C = Code.region 7 (RofN Try.f26 7) true := hR.symm.trans (by kernel_rfl)
      clear hR
      subst eR
      refine wp_region_noPanic ?_
      refine rg7 cb (ccells sv rs pv ⟨ta, k, tc⟩ ⟨pa, pn, pc⟩).toArray ⟨xa, xn, xc⟩ ⟨pa, pn, pc⟩ wr _ (fun c a d v w h => h) HS.out (grL rs pv) (ptL ss) (be 2 (ps.length : Int) ++ ps) (chL rs pv ss ps) GR.out (fun u hq => ?_) (fun u g y hq hg hy => ?_) (fun g y z jb W hq hz => ?_)
      · have h := sized_any' ⟨pa, pn, pc⟩ ps 2 u ⟨(HP.out.q HI.out.q).q hq, LP.out⟩ (by omega) (by omega) (by have := HPN.out; show pn ≤ _; omega)
        dsimp only at h
        rw [← LP.out] at h
        rw [← LP.out]
        exact h
      · refine build3 1 u g ⟨xa, xn, xc⟩ y (grL rs pv) (ptL ss) (be 2 (ps.length : Int) ++ ps) ⟨hg.seg, Row.len hg⟩ ⟨HXR.out.seg.q hq, Row.len HXR.out⟩ ⟨hy.seg, Row.len hy⟩ ?_
        have h1 := HXL.out
        have h2 := HL.out
        have h3 := HPN.out
        have h4 := LP.out
        rw [List.length_append, be_length]
        unfold grL
        rw [List.length_append, be_length]
        omega
      · refine NoPanic.normal ?_
        refine ‹∀ a w, Code.wp Try.prog _ _ a w → _› _ _ ?_
        have HZ := hid (show Q w W ∧ Row W z (chL rs pv ss ps) from ⟨HI.out.q.trans hq, hz⟩)
        clear hq hz
        obtain ⟨za, zn, zc⟩ := z
        dsimp only
        go_wp2
        go_ret
        exact ⟨⟨za, zn, zc⟩, rfl, HZ.out⟩
end Go.Proofs.Ytekpepnonhbkcaa
