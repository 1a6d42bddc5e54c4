/-
  What the law's all answers: a contract that the statements' walks use.
-/
import Derived.Test.YtdlefmlienfjhaaHfK
import Derived.Test.YtdlefmlienfjhaaCopy
import Derived.Deep.Cut
import Derived.Deep.CutRange
namespace Go.Proofs.Ytdlefmlienfjhaa
open Go.RowKit
set_option linter.unusedVariables false
set_option maxRecDepth 100000

theorem results_tmp4 {fn : Func} {t u v x : Tmp} (h : fn.results = #[.tmp t, .tmp u, .tmp v, .tmp x]) (tmps : Array Value) (P : Program) (w : World) :
    (results fn tmps).run P w = .ok (.tuple #[tmps.getD t undef, tmps.getD u undef, tmps.getD v undef, tmps.getD x undef]) w := by
  simp [results, h]
def slen : Value → Nat
  | .slice _ n _ => n
  | _ => 0
theorem Amid.len {es0 : List Ev} {bd0 : List Int} {K G : Hf} {es : List Ev} {bd : List Int} (h : Amid es0 bd0 K G es bd) (hk : Hok K) : es.length + bd.length ≤ es0.length + bd0.length + K.held.length := by
  have h1 := h.w1
  have h2 := runA_len hk
  unfold addE at h1
  have e1 := congrArg (fun p => p.1.length) h1
  have e2 := congrArg (fun p => p.2.length) h1
  simp only [List.length_append] at e1 e2
  omega
theorem nxtF_data {G F : Hf} {e : Ev} (hk : Hok G) (h : nxtF G = (some e, F)) : e.d.length + F.held.length ≤ G.held.length := by
  have hx : nxt (G.held.length + 1) G = (some e, F) := by
    unfold nxtF at h
    revert h
    cases nxt (G.held.length + 1) G with
    | mk a b => cases a with
      | some x => intro h; exact h
      | none => intro h; cases h
  exact nxt_data hk hx
theorem finA_len (C : Hf) : (finA C).held.length ≤ C.held.length := by
  have h0 : (fin0 C).held.length ≤ C.held.length := by
    unfold fin0 fini
    repeat' split
    all_goals exact Nat.le_refl _
  unfold finA
  split
  · exact h0
  · exact Nat.zero_le _
theorem AL.fresh {w : World} {rb : Nat} {wr : World} {H : Hf} {s x y r : Sv} {L : List (Ev × Sv)} {bd zs : List Int} (h : AL w rb wr H s x y r L bd zs) {b : Nat} (hb : wr.heap.size ≤ b) : b ≠ rb ∧ blk s.a ≠ some b ∧ blk x.a ≠ some b ∧ blk y.a ≠ some b :=
  ⟨by have := h.h.lt; omega, fun e => by have := Sub.lt h.h.r b e; omega, fun e => by have := Sub.lt h.e b e; omega, fun e => by have := Sub.lt h.ry b e; omega⟩
/-- What the law's all answers. -/
def AllP (w : World) (st : Int) (bs : List Int) (e : Ending) (w' : World) : Prop :=
  ∃ (x y : Sv) (L : List (Ev × Sv)), e = .returned (.tuple #[.slice x.a x.n x.c, .slice y.a y.n y.c, .int .i64 (allZ st bs).fault, .bool (allZ st bs).done]) ∧ Q w w' ∧ RowE w' x L ∧ (∀ p ∈ L, Seg w' p.2.a p.1.d ∧ p.1.d.length = p.2.n) ∧ L.map (·.1) = (allW st bs).1.1 ∧ Row w' y (allW st bs).1.2
/-- The loop over the pieces. -/
structure OR (w : World) (rb : Nat) (st : Int) (bs : List Int) (wr : World) (H : Hf) (s x y r : Sv) (L : List (Ev × Sv)) (bd zs : List Int) (i : Nat) : Prop where
  al : AL w rb wr H s x y r L bd zs
  bt : Btw (allW st bs) H zs (L.map (·.1)) bd
  l1 : H.held.length + zs.length ≤ bs.length
  z : ∀ y ∈ zs, 0 ≤ y ∧ y < 256
  l2 : i + zs.length ≤ bs.length
/-- The loop over a piece's events. -/
structure IR (w : World) (rb : Nat) (es0 : List Ev) (bd0 : List Int) (K : Hf) (wr : World) (G : Hf) (t x y r : Sv) (L : List (Ev × Sv)) (bd zs : List Int) : Prop where
  al : AL w rb wr G t x y r L bd zs
  am : Amid es0 bd0 K G (L.map (·.1)) bd
theorem allP_of {w wr : World} {rb : Nat} {st : Int} {bs : List Int} {H : Hf} {s x y r : Sv} {L : List (Ev × Sv)} {bd zs : List Int} (h : AL w rb wr H s x y r L bd zs) (hw : (L.map (·.1), bd) = (allW st bs).1) {f : Int} {d : Bool} (hf : f = (allZ st bs).fault) (hd : d = (allZ st bs).done) :
    AllP w st bs (.returned (.tuple #[.slice x.a x.n x.c, .slice y.a y.n y.c, .int .i64 f, .bool d])) wr := by
  subst hf hd
  have h1 : L.map (·.1) = (allW st bs).1.1 := by rw [← hw]
  have h2 : bd = (allW st bs).1.2 := by rw [← hw]
  exact ⟨x, y, L, rfl, h.q, h.e, h.d, h1, by rw [← h2]; exact h.ry⟩
set_option maxHeartbeats 32000000 in
theorem all_any (st : Int) (ba : Option Addr) (bn bc : Nat) (bs : List Int) (ca : Option Addr) (cn cc : Nat) (cs : List Int) (w : World) (hst : st = 1 ∨ st = 2) (hl : bs.length = bn) (hn : bn ≤ 1000000000000) (hz : ∀ y ∈ bs, 0 ≤ y ∧ y < 256) (hs : Seg w ba bs) (hcl : cs.length = cn) (hcn : cn ≤ 140737488355328) (hcs : SegN w ca cs) :
    Calls Try.prog 27 #[.int .i64 st, .slice ba bn bc, .slice ca cn cc] w (AllP w st bs) := by
  have HL := hid hl
  have HS := hid hs
  have HZ := hid hz
  have HCL := hid hcl
  have HCS := hid hcs
  have HST := hid hst
  clear hl hs hz hcl hcs hst
  go_enter Try.func27, Try.ntmps27
  go_wp2_with (first
    | (go_at_call 8; refine (new_ok st 1048576 _ ⟨HST.out, by omega, by omega⟩).mono ?_; rintro e w1 ⟨rfl, q1, h1⟩; have X1 := hid (And.intro q1 h1); clear q1 h1)
    | (go_at_call 11; refine (rcopy_any ba bn bc bs _ HL.out (by omega) (HS.out.q X1.out.1)).mono ?_; rintro e w2 ⟨g, rfl, q2, o2, hg⟩; have X2 := hid (And.intro q2 (And.intro o2 hg)); clear q2 o2 hg))
  have H0 := hid (show OR w w.heap.size st bs w2 (hf0 st 1048576) nilS nilS nilS ⟨some ⟨g, 0, none⟩, bn, bn⟩ [] [] bs 0 from
    ⟨⟨X1.out.1.trans X2.out.1, X1.out.2.q X2.out.1, sub_nil _ _ _, (fun p hp => by cases hp), sub_nil _ _ _, X2.out.2.1.seg, HL.out, Nat.le_refl _, Nat.le_refl _, (fun b e => by cases e), (fun b e => by cases e), (fun b e => by cases e), (fun p hp => by cases hp), fun b e => by
        have hb : g = b := by simpa [blk] using e
        subst hb
        have hlt := X1.out.2.lt
        have h3 := X2.out.2.2
        have h4 := (World.ownsRow.lt X2.out.2.1 g rfl).2
        exact ⟨h4, by omega, (fun e => by cases e), (fun e => by cases e), (fun e => by cases e)⟩⟩,
     Btw.start HST.out bs, by simp, HZ.out, by simp⟩)
  clear X1 X2 HS
  generalize w.heap.size = rb at *
  clear w1
  go_loopw [12, 13, 14, 15] (fun ov bv rv iv wr => ∃ (H : Hf) (s x y r : Sv) (L : List (Ev × Sv)) (bd zs : List Int) (i : Nat), ov = .slice x.a x.n x.c ∧ bv = .slice y.a y.n y.c ∧ rv = .slice r.a r.n r.c ∧ iv = .int .i64 i ∧ OR w rb st bs wr H s x y r L bd zs i) (fun _ _ rv _ _ => slen rv)
  case atStart => exact ⟨_, _, nilS, nilS, ⟨some ⟨g, 0, none⟩, bn, bn⟩, [], [], bs, 0, rfl, rfl, rfl, rfl, H0.out⟩
  case round =>
    obtain ⟨H, s, ⟨xa, xn, xc⟩, ⟨ya, yn, yc⟩, ⟨ra, rn, rc⟩, L, bd, zs, i, rfl, rfl, rfl, rfl, hR⟩ := hrel
    have R := hid hR
    have hzl := R.out.al.zl
    have hzc := R.out.al.zc
    have hl1 := R.out.l1
    have hl2 := R.out.l2
    have hll := HL.out
    dsimp only at hzl hzc
    have hif : (i : Int) + 1 ≤ 9223372036854775807 := by omega
    clear hR H0
    go_upto_region 10 with fail
    go_cut [56] from 34 to 105 (fun tv wc => wc = wr ∧ ∃ t : Bool, tv = .bool t ∧ (t = true → ∃ m : Nat, i < cn ∧ cs.getD i 0 = (m : Int) ∧ 0 < m ∧ m < rn))
    case first =>
      by_cases hic : i < cn
      · have hici : (i : Int) < (cn : Int) := by omega
        obtain ⟨cb, off, rfl, hcell⟩ := HCS.out (by intro e; have := HCL.out; rw [e] at this; simp at this; omega)
        have hc0 := hcell i (by rw [HCL.out]; exact hic)
        have hc : wr.cell? ⟨cb, off + i, none⟩ = some (.int .i64 (cs.getD i 0)) := (R.out.al.q.cell (lt_of_cell hc0)).trans hc0
        clear hcell hc0
        generalize hv : cs.getD i 0 = v at *
        by_cases hv0 : 0 < v
        · by_cases hv1 : v < (rn : Int)
          · have HV := hid (And.intro hv0 hv1)
            go_wp2_with fail
            go_meet
            case rel => exact ⟨rfl, true, rfl, fun _ => ⟨v.toNat, hic, by have := HV.out.1; omega, by have := HV.out.1; omega, by have := HV.out; omega⟩⟩
          · go_wp2_with fail
            go_meet
            case rel => exact ⟨rfl, false, rfl, fun h => by cases h⟩
        · have hv0b : decide (0 < v) = false := decide_eq_false hv0
          go_wp2_with fail
          go_meet
          case rel => exact ⟨rfl, false, rfl, fun h => by cases h⟩
      · have hici : ¬ (i : Int) < (cn : Int) := by omega
        have hicb : decide ((i : Int) < (cn : Int)) = false := decide_eq_false hici
        go_wp2_with fail
        go_meet
        case rel => exact ⟨rfl, false, rfl, fun h => by cases h⟩
    case rest =>
      obtain ⟨hwc, t, rfl, ht⟩ := hcut
      subst hwc
      cases t
      · obtain ⟨m, hmn⟩ : ∃ m, m = rn := ⟨_, rfl⟩
        have hto := slice_toB ra rn rc m (by omega) (by omega)
        have hfr := slice_fromB ra rn rc m (by omega)
        have hlast : (((rn - m : Nat) : Int) == 0) = true := by simp; omega
        have htk : zs.take m = zs := List.take_of_length_le (by omega)
        have hdr : zs.drop m = [] := List.drop_of_length_le (by omega)
        have HFE := hid (feed_any rb H s ⟨ra, m, rc⟩ zs wc R.out.al.h R.out.bt.e (by rw [← htk]; exact seg_take R.out.al.z m) (by show zs.length = m; omega) (by omega))
        obtain ⟨r2, hr2⟩ : ∃ r2 : Option Addr, (if rc = m then ra else ra.map (·.add m)) = r2 := ⟨_, rfl⟩
        obtain ⟨n2, hn2⟩ : ∃ n2, rn - m = n2 := ⟨_, rfl⟩
        obtain ⟨c2, hc2⟩ : ∃ c2, rc - m = c2 := ⟨_, rfl⟩
        have HN2 := hid hn2
        have AR := R.out.al.rest m (by show m ≤ rn; omega)
        dsimp only at AR
        rw [hr2, hn2, hc2] at AR hfr
        rw [hn2] at hlast
        have ARH := hid AR
        have HMN := hid hmn
        have hrnm : (rn : Int) = (m : Int) := by omega
        have hto' : ∀ u, (Instr.slice 30 (.slice ra rn rc) none (some (.int .i64 (rn : Int))) none).run Try.prog u = .ok (.slice ra m rc) u := by rw [hrnm]; exact hto
        have hfr' : ∀ u, (Instr.slice 30 (.slice ra rn rc) (some (.int .i64 (rn : Int))) none none).run Try.prog u = .ok (.slice r2 n2 c2) u := by rw [hrnm]; exact hfr
        have HNUM := hid (And.intro hzl (And.intro hzc (And.intro hl1 (And.intro hl2 (And.intro hll (And.intro hn (And.intro hcn hif)))))))
        clear hr2 hn2 hc2 ht hto hfr hrnm hmn AR hzl hzc hl1 hl2 hll hn hcn hif
        go_wp2_with (first
          | (go_at_call 12; refine HFE.out.mono ?_; rintro e w4 ⟨sK, rfl, h4, k4, f4⟩; have A4 := hid (ARH.out.feed h4 k4 f4); clear h4 k4 f4)
          | (go_at_call 17; refine (end_any rb _ sK _ A4.out.h (by unfold fdF; rw [if_pos R.out.bt.f]; exact R.out.bt.e)).mono ?_; rintro e w5 ⟨rfl, h5, k5⟩; have A5 := hid (A4.out.call h5 k5 (From.refl _)); clear h5 k5; refine Hid.out ?_))
        refine hid ?_
        obtain ⟨K, hK⟩ : ∃ K, K = (H.app zs).fini true := ⟨_, rfl⟩
        have hfd : fdF H zs = H.app zs := by unfold fdF; rw [if_pos R.out.bt.f]
        rw [hfd, ← hK] at A5
        have HKE := hid hK
        have AK := hid (show AL w rb w5 K sK ⟨xa, xn, xc⟩ ⟨ya, yn, yc⟩ ⟨r2, n2, c2⟩ L bd (zs.drop m) from A5.out)
        have HKO := hid (show Hok K from by rw [hK]; exact (R.out.bt.ok.app R.out.z).fini true)
        have HKL := hid (show K.held.length ≤ 1000000000000 from by rw [hK]; show (H.held ++ zs).length ≤ _; have := HNUM.out; rw [List.length_append]; omega)
        have HBL := hid (show (L.map (·.1)).length + bd.length ≤ 1000000000000 from by have := R.out.bt.len HST.out HZ.out; have := HNUM.out; omega)
        clear hfd hK A4 HFE A5 ARH htk hdr
        go_wp2
        go_loopw [12, 13] (fun ov bv wr2 => ∃ (G : Hf) (t x2 y2 : Sv) (L2 : List (Ev × Sv)) (bd2 : List Int), ov = .slice x2.a x2.n x2.c ∧ bv = .slice y2.a y2.n y2.c ∧ IR w rb (L.map (·.1)) bd K wr2 G t x2 y2 ⟨r2, n2, c2⟩ L2 bd2 (zs.drop m)) (fun _ _ wr2 => hln wr2 rb)
        case atStart => exact ⟨K, sK, ⟨xa, xn, xc⟩, ⟨ya, yn, yc⟩, L, bd, rfl, rfl, ⟨AK.out, Amid.start HKO.out _ _⟩⟩
        case round =>
          obtain ⟨G, t, ⟨x2a, x2n, x2c⟩, ⟨y2a, y2n, y2c⟩, L2, bd2, rfl, rfl, hI⟩ := hrel
          have I := hid hI
          clear hI
          have HGL := hid (show t.n ≤ 140737488355328 from by have h1 := I.out.al.h.len; have h2 := I.out.am.l; have h3 := HKL.out; omega)
          have HLEN := hid (show L2.length + bd2.length ≤ 2000000000000 from by have h1 := I.out.am.len HKO.out; have h2 := HBL.out; have h3 := HKL.out; simp only [List.length_map] at h1 h2; omega)
          have HNX := hid (next_any rb G t _ I.out.al.h I.out.am.ok HGL.out)
          obtain ⟨o, F, hx⟩ : ∃ o F, nxtF G = (o, F) := ⟨_, _, rfl⟩
          have HX := hid hx
          unfold NxE at HNX
          rw [hx] at HNX
          clear hx
          cases o with
          | some ev =>
            obtain ⟨hlt, st1, st2⟩ := I.out.am.step HX.out
            have HSP := hid (And.intro hlt (And.intro st1 st2))
            have HDL := hid (show ev.d.length ≤ 1000000000000 from by have h1 := nxtF_data I.out.am.ok HX.out; have h2 := I.out.am.l; have h3 := HKL.out; omega)
            clear hlt st1 st2
            dsimp only [Option.isSome_some, if_true] at HNX
            by_cases hk2 : ev.k = 2
            · have HK2 := hid hk2
              have hk2b : (ev.k == 2) = true := by simp [hk2]
              clear hk2
              go_wp2_with (first
                | (go_at_call 14; refine HNX.out.mono ?_; rintro e w5 ⟨t5, h5, k5, f5, ev5, ⟨da, dn, dc⟩, rfl, hev, _⟩; obtain ⟨he5, hrow, hnew⟩ := hev _ rfl; subst he5; have A5 := hid (I.out.al.call h5 k5 f5); have HN5 := hid (And.intro hrow hnew); have HM5 := hid (show hln w5 rb < hln wr rb from by rw [hln_of h5, hln_of I.out.al.h]; exact HSP.out.1); clear h5 k5 f5 hev hrow hnew; obtain ⟨⟨zza, zzn, zzc⟩, w7, hrun, hrow7, hk7, hb7⟩ := row_appendB (ty := 30) (x := .slice da dn dc) (m := dn) (ys := ev5.d) (A5.out.mv ((Q.refl w5).alloc (.cells (eC ev5 ⟨da, dn, dc⟩) 41))).ry (src_seg ((Row.seg HN5.out.1).q ((Q.refl w5).alloc _)) (Row.len HN5.out.1)) (by have h1 := Row.len A5.out.ry; have h2 := HLEN.out; have h3 := HDL.out; have h4 := Row.len HN5.out.1; dsimp only at h1 h4 ⊢; omega); have A7 := hid ((A5.out.mv ((Q.refl w5).alloc (.cells (eC ev5 ⟨da, dn, dc⟩) 41))).body hrow7 hk7 hb7); have HM7 := hid (show hln w7 rb < hln wr rb from by rw [hln_of A7.out.h, ← hln_of A5.out.h]; exact HM5.out); clear hrow7 hk7 hb7)
                | (at_builtin; refine Lib.wpList_append_run _ rfl _ _ _ _ rfl _ _ rfl rfl _ _ hrun ?_))
              go_roundw
              case rel => exact ⟨F, t5, ⟨x2a, x2n, x2c⟩, ⟨zza, zzn, zzc⟩, L2, bd2 ++ ev5.d, rfl, rfl, ⟨A7.out, HSP.out.2.1 HK2.out⟩⟩
              case measure => exact HM7.out
            · have HK2 := hid hk2
              have hk2b : (ev.k == 2) = false := beq_eq_false_iff_ne.2 hk2
              clear hk2
              go_wp2_with (first
                | (go_at_call 14; refine HNX.out.mono ?_; rintro e w5 ⟨t5, h5, k5, f5, ev5, ⟨da, dn, dc⟩, rfl, hev, _⟩; obtain ⟨he5, hrow, hnew⟩ := hev _ rfl; subst he5; have hfresh := (fun b (e : blk da = some b) => I.out.al.fresh (hnew b e)); have A5 := hid (I.out.al.call h5 k5 f5); have HM5 := hid (show hln w5 rb < hln wr rb from by rw [hln_of h5, hln_of I.out.al.h]; exact HSP.out.1); obtain ⟨⟨zza, zzn, zzc⟩, w7, hrun, hrow7, hk7, hb7⟩ := rowE_append (ty := 64) (u := w5.alloc (.cells (eC ev5 ⟨da, dn, dc⟩) 41)) (ev5, ⟨da, dn, dc⟩) (A5.out.mv ((Q.refl w5).alloc (.cells (eC ev5 ⟨da, dn, dc⟩) 41))).e (by have h1 := RowE.len A5.out.e; have h2 := HLEN.out; dsimp only at h1 ⊢; omega); have A7 := hid ((A5.out.mv (((Q.refl w5).alloc (.cells (eC ev5 ⟨da, dn, dc⟩) 41)).alloc (.cells (eC ev5 ⟨da, dn, dc⟩) 41))).out hrow7 hk7 hb7 ((Row.seg hrow).q (((Q.refl w5).alloc _).alloc _)) (Row.len hrow) (fun b e => ⟨Nat.lt_of_lt_of_le (Sub.lt hrow b e) (((Q.refl w5).alloc _).alloc _).size, (hfresh b e).1, fun e2 => (hfresh b e).2.1 (f5 b e2), (hfresh b e).2.2.1, (hfresh b e).2.2.2⟩)); have HM7 := hid (show hln w7 rb < hln wr rb from by rw [hln_of A7.out.h, ← hln_of A5.out.h]; exact HM5.out); have hld := heap_alloc_new w5 (.cells (eC ev5 ⟨da, dn, dc⟩) 41); dsimp only [eC] at hrun hld; clear h5 k5 f5 hev hrow hnew hfresh hrow7 hk7 hb7)
                | (refine wpList_load_row rfl 41 _ rfl w5.heap.size rfl 41 #[.int .i64 ev5.k, .slice da dn dc, .int .i64 ev5.s0, .int .i64 ev5.s1, .int .i64 ev5.s2, .int .i64 ev5.i] (0, 0) _ hld Try.underlying41 rfl info41 ?_)
                | (at_builtin; refine Lib.wpList_append_run _ rfl _ _ _ _ rfl (.slice x2a x2n x2c) (.slice (some ⟨(w5.alloc (.cells #[.int .i64 ev5.k, .slice da dn dc, .int .i64 ev5.s0, .int .i64 ev5.s1, .int .i64 ev5.s2, .int .i64 ev5.i] 41)).heap.size, 0, none⟩) 1 1) rfl (by (try simp only [Act.eval]); (try dsimp only); (try simp)) _ _ hrun ?_))
              go_roundw
              case rel => exact ⟨F, t5, ⟨zza, zzn, zzc⟩, ⟨y2a, y2n, y2c⟩, L2 ++ [(ev5, ⟨da, dn, dc⟩)], bd2, rfl, rfl, ⟨A7.out, by rw [List.map_append]; exact HSP.out.2.2 HK2.out⟩⟩
              case measure => exact HM7.out
          | none =>
            have HSTOP := hid (I.out.am.stop HX.out)
            dsimp only [Option.isSome_none, Bool.false_eq_true, if_false] at HNX
            by_cases hff : F.fault = 0
            · have HFF := hid hff
              rw [hff] at HNX
              clear hff
              go_wp2_with (first
                | (go_at_call 14; refine HNX.out.mono ?_; rintro e w5 ⟨t5, h5, k5, f5, ev5, y5, rfl, _, h05⟩; obtain ⟨he05, hy05⟩ := h05 rfl; subst he05; subst hy05; have A5 := hid ((I.out.al.call h5 k5 f5).mv ((Q.refl w5).alloc (.cells (eC ev0 nilS) 41))); clear h5 k5 f5 h05)
                | (go_at_call 19; refine (done_any rb F t5 _ A5.out.h).mono ?_; rintro e w6 ⟨rfl, rfl⟩))
              (try simp only [Exit.inBlock, Exit.then]); refine bodyPost_ret (results_tmp4 rfl _ _ _) rfl ?_
              have hb := R.out.bt.last (es2 := L2.map (·.1)) (bd2 := bd2) (by rw [← HKE.out]; exact HSTOP.out.1)
              have hF : F = allZ st bs := by rw [HSTOP.out.2, HKE.out]; exact hb.2
              exact allP_of A5.out hb.1 (by rw [← hF]; exact HFF.out.symm) (by rw [hF])
            · have HFF := hid hff
              have hfb : (F.fault != 0) = true := by simp [hff]
              clear hff
              go_wp2_with (first
                | (go_at_call 14; refine HNX.out.mono ?_; rintro e w5 ⟨t5, h5, k5, f5, ev5, y5, rfl, _, h05⟩; obtain ⟨he05, hy05⟩ := h05 rfl; subst he05; subst hy05; have A5 := hid ((I.out.al.call h5 k5 f5).mv ((Q.refl w5).alloc (.cells (eC ev0 nilS) 41))); clear h5 k5 f5 h05)
                | (go_at_call 19; refine (done_any rb F t5 _ A5.out.h).mono ?_; rintro e w6 ⟨rfl, rfl⟩))
              (try simp only [Exit.inBlock, Exit.then]); refine bodyPost_ret (results_tmp4 rfl _ _ _) rfl ?_
              have hb := R.out.bt.last (es2 := L2.map (·.1)) (bd2 := bd2) (by rw [← HKE.out]; exact HSTOP.out.1)
              have hF : F = allZ st bs := by rw [HSTOP.out.2, HKE.out]; exact hb.2
              exact allP_of A5.out hb.1 (by rw [hF]) (by rw [hF])
      · obtain ⟨m, hic, hm, hm0, hmr⟩ := ht rfl
        obtain ⟨cb, off, rfl, hcell⟩ := HCS.out (by intro e; have := HCL.out; rw [e] at this; simp at this; omega)
        have hc0 := hcell i (by rw [HCL.out]; exact hic)
        rw [hm] at hc0
        have hc : wc.cell? ⟨cb, off + i, none⟩ = some (.int .i64 (m : Int)) := (R.out.al.q.cell (lt_of_cell hc0)).trans hc0
        have hici : (i : Int) < (cn : Int) := by omega
        have hto := slice_toB ra rn rc m (by omega) (by omega)
        have hfr := slice_fromB ra rn rc m (by omega)
        have hlast : (((rn - m : Nat) : Int) == 0) = false := beq_eq_false_iff_ne.2 (by omega)
        have HFE := hid (feed_any rb H s ⟨ra, m, rc⟩ (zs.take m) wc R.out.al.h R.out.bt.e (seg_take R.out.al.z m) (by rw [List.length_take]; show min m zs.length = m; omega) (by rw [List.length_take]; omega))
        have HM := hid (And.intro hm0 hmr)
        clear hcell hc0 hm hic hm0 hmr ht
        go_wp2_with (go_at_call 12; refine HFE.out.mono ?_; rintro e w4 ⟨sK, rfl, h4, k4, f4⟩; have A4 := hid (R.out.al.feed h4 k4 f4); clear h4 k4 f4; refine Hid.out ?_)
        refine hid ?_
        obtain ⟨K, hK⟩ : ∃ K, K = H.app (zs.take m) := ⟨_, rfl⟩
        have hfd : fdF H (zs.take m) = K := by unfold fdF; rw [if_pos R.out.bt.f, hK]
        rw [hfd] at A4
        have HKE := hid hK
        have HKO := hid (show Hok K from by rw [hK]; exact R.out.bt.ok.app (fun y hy => R.out.z y (List.mem_of_mem_take hy)))
        have HKL := hid (show K.held.length ≤ 1000000000000 from by rw [hK]; show (H.held ++ zs.take m).length ≤ _; rw [List.length_append, List.length_take]; omega)
        have HKM := hid (show K.held.length ≤ H.held.length + m from by rw [hK]; show (H.held ++ zs.take m).length ≤ _; rw [List.length_append, List.length_take]; omega)
        have HBN := hid (fun (es2 : List Ev) (b2 : List Int) (h2 : (es2, b2) = addE (L.map (·.1), bd) (runA K).1) => (Btw.next (W := allW st bs) (H := H) (xs := zs.take m) (ys := zs.drop m) (es2 := es2) (bd2 := b2) (by rw [List.take_append_drop]; exact R.out.bt) (fun y hy => R.out.z y (List.mem_of_mem_take hy)) (fun y hy => R.out.z y (List.mem_of_mem_drop hy)) (by rw [← hK]; exact h2)))
        have HBL := hid (show (L.map (·.1)).length + bd.length ≤ 1000000000000 from by have := R.out.bt.len HST.out HZ.out; omega)
        have AK := hid (A4.out.rest m (by have := HM.out.2; show m ≤ rn; omega))
        obtain ⟨r2, hr2⟩ : ∃ r2 : Option Addr, (if rc = m then ra else ra.map (·.add m)) = r2 := ⟨_, rfl⟩
        obtain ⟨n2, hn2⟩ : ∃ n2, rn - m = n2 := ⟨_, rfl⟩
        obtain ⟨c2, hc2⟩ : ∃ c2, rc - m = c2 := ⟨_, rfl⟩
        have HN2 := hid hn2
        dsimp only at AK
        rw [hr2, hn2, hc2] at AK hfr
        rw [hn2] at hlast
        clear hr2 hn2 hc2
        have HNUM := hid (And.intro hzl (And.intro hzc (And.intro hl1 (And.intro hl2 (And.intro hll (And.intro hn (And.intro hcn hif)))))))
        clear hfd hK A4 HFE hto hc hici hzl hzc hl1 hl2 hll hn hcn hif
        go_wp2
        go_loopw [12, 13] (fun ov bv wr2 => ∃ (G : Hf) (t x2 y2 : Sv) (L2 : List (Ev × Sv)) (bd2 : List Int), ov = .slice x2.a x2.n x2.c ∧ bv = .slice y2.a y2.n y2.c ∧ IR w rb (L.map (·.1)) bd K wr2 G t x2 y2 ⟨r2, n2, c2⟩ L2 bd2 (zs.drop m)) (fun _ _ wr2 => hln wr2 rb)
        case atStart => exact ⟨K, sK, ⟨xa, xn, xc⟩, ⟨ya, yn, yc⟩, L, bd, rfl, rfl, ⟨AK.out, Amid.start HKO.out _ _⟩⟩
        case round =>
          obtain ⟨G, t, ⟨x2a, x2n, x2c⟩, ⟨y2a, y2n, y2c⟩, L2, bd2, rfl, rfl, hI⟩ := hrel
          have I := hid hI
          clear hI
          have HGL := hid (show t.n ≤ 140737488355328 from by have h1 := I.out.al.h.len; have h2 := I.out.am.l; have h3 := HKL.out; omega)
          have HLEN := hid (show L2.length + bd2.length ≤ 2000000000000 from by have h1 := I.out.am.len HKO.out; have h2 := HBL.out; have h3 := HKL.out; simp only [List.length_map] at h1 h2; omega)
          have HNX := hid (next_any rb G t _ I.out.al.h I.out.am.ok HGL.out)
          obtain ⟨o, F, hx⟩ : ∃ o F, nxtF G = (o, F) := ⟨_, _, rfl⟩
          have HX := hid hx
          unfold NxE at HNX
          rw [hx] at HNX
          clear hx
          cases o with
          | some ev =>
            obtain ⟨hlt, st1, st2⟩ := I.out.am.step HX.out
            have HSP := hid (And.intro hlt (And.intro st1 st2))
            have HDL := hid (show ev.d.length ≤ 1000000000000 from by have h1 := nxtF_data I.out.am.ok HX.out; have h2 := I.out.am.l; have h3 := HKL.out; omega)
            clear hlt st1 st2
            dsimp only [Option.isSome_some, if_true] at HNX
            by_cases hk2 : ev.k = 2
            · have HK2 := hid hk2
              have hk2b : (ev.k == 2) = true := by simp [hk2]
              clear hk2
              go_wp2_with (first
                | (go_at_call 14; refine HNX.out.mono ?_; rintro e w5 ⟨t5, h5, k5, f5, ev5, ⟨da, dn, dc⟩, rfl, hev, _⟩; obtain ⟨he5, hrow, hnew⟩ := hev _ rfl; subst he5; have A5 := hid (I.out.al.call h5 k5 f5); have HN5 := hid (And.intro hrow hnew); have HM5 := hid (show hln w5 rb < hln wr rb from by rw [hln_of h5, hln_of I.out.al.h]; exact HSP.out.1); clear h5 k5 f5 hev hrow hnew; obtain ⟨⟨zza, zzn, zzc⟩, w7, hrun, hrow7, hk7, hb7⟩ := row_appendB (ty := 30) (x := .slice da dn dc) (m := dn) (ys := ev5.d) (A5.out.mv ((Q.refl w5).alloc (.cells (eC ev5 ⟨da, dn, dc⟩) 41))).ry (src_seg ((Row.seg HN5.out.1).q ((Q.refl w5).alloc _)) (Row.len HN5.out.1)) (by have h1 := Row.len A5.out.ry; have h2 := HLEN.out; have h3 := HDL.out; have h4 := Row.len HN5.out.1; dsimp only at h1 h4 ⊢; omega); have A7 := hid ((A5.out.mv ((Q.refl w5).alloc (.cells (eC ev5 ⟨da, dn, dc⟩) 41))).body hrow7 hk7 hb7); have HM7 := hid (show hln w7 rb < hln wr rb from by rw [hln_of A7.out.h, ← hln_of A5.out.h]; exact HM5.out); clear hrow7 hk7 hb7)
                | (at_builtin; refine Lib.wpList_append_run _ rfl _ _ _ _ rfl _ _ rfl rfl _ _ hrun ?_))
              go_roundw
              case rel => exact ⟨F, t5, ⟨x2a, x2n, x2c⟩, ⟨zza, zzn, zzc⟩, L2, bd2 ++ ev5.d, rfl, rfl, ⟨A7.out, HSP.out.2.1 HK2.out⟩⟩
              case measure => exact HM7.out
            · have HK2 := hid hk2
              have hk2b : (ev.k == 2) = false := beq_eq_false_iff_ne.2 hk2
              clear hk2
              go_wp2_with (first
                | (go_at_call 14; refine HNX.out.mono ?_; rintro e w5 ⟨t5, h5, k5, f5, ev5, ⟨da, dn, dc⟩, rfl, hev, _⟩; obtain ⟨he5, hrow, hnew⟩ := hev _ rfl; subst he5; have hfresh := (fun b (e : blk da = some b) => I.out.al.fresh (hnew b e)); have A5 := hid (I.out.al.call h5 k5 f5); have HM5 := hid (show hln w5 rb < hln wr rb from by rw [hln_of h5, hln_of I.out.al.h]; exact HSP.out.1); obtain ⟨⟨zza, zzn, zzc⟩, w7, hrun, hrow7, hk7, hb7⟩ := rowE_append (ty := 64) (u := w5.alloc (.cells (eC ev5 ⟨da, dn, dc⟩) 41)) (ev5, ⟨da, dn, dc⟩) (A5.out.mv ((Q.refl w5).alloc (.cells (eC ev5 ⟨da, dn, dc⟩) 41))).e (by have h1 := RowE.len A5.out.e; have h2 := HLEN.out; dsimp only at h1 ⊢; omega); have A7 := hid ((A5.out.mv (((Q.refl w5).alloc (.cells (eC ev5 ⟨da, dn, dc⟩) 41)).alloc (.cells (eC ev5 ⟨da, dn, dc⟩) 41))).out hrow7 hk7 hb7 ((Row.seg hrow).q (((Q.refl w5).alloc _).alloc _)) (Row.len hrow) (fun b e => ⟨Nat.lt_of_lt_of_le (Sub.lt hrow b e) (((Q.refl w5).alloc _).alloc _).size, (hfresh b e).1, fun e2 => (hfresh b e).2.1 (f5 b e2), (hfresh b e).2.2.1, (hfresh b e).2.2.2⟩)); have HM7 := hid (show hln w7 rb < hln wr rb from by rw [hln_of A7.out.h, ← hln_of A5.out.h]; exact HM5.out); have hld := heap_alloc_new w5 (.cells (eC ev5 ⟨da, dn, dc⟩) 41); dsimp only [eC] at hrun hld; clear h5 k5 f5 hev hrow hnew hfresh hrow7 hk7 hb7)
                | (refine wpList_load_row rfl 41 _ rfl w5.heap.size rfl 41 #[.int .i64 ev5.k, .slice da dn dc, .int .i64 ev5.s0, .int .i64 ev5.s1, .int .i64 ev5.s2, .int .i64 ev5.i] (0, 0) _ hld Try.underlying41 rfl info41 ?_)
                | (at_builtin; refine Lib.wpList_append_run _ rfl _ _ _ _ rfl (.slice x2a x2n x2c) (.slice (some ⟨(w5.alloc (.cells #[.int .i64 ev5.k, .slice da dn dc, .int .i64 ev5.s0, .int .i64 ev5.s1, .int .i64 ev5.s2, .int .i64 ev5.i] 41)).heap.size, 0, none⟩) 1 1) rfl (by (try simp only [Act.eval]); (try dsimp only); (try simp)) _ _ hrun ?_))
              go_roundw
              case rel => exact ⟨F, t5, ⟨zza, zzn, zzc⟩, ⟨y2a, y2n, y2c⟩, L2 ++ [(ev5, ⟨da, dn, dc⟩)], bd2, rfl, rfl, ⟨A7.out, by rw [List.map_append]; exact HSP.out.2.2 HK2.out⟩⟩
              case measure => exact HM7.out
          | none =>
            have HSTOP := hid (I.out.am.stop HX.out)
            dsimp only [Option.isSome_none, Bool.false_eq_true, if_false] at HNX
            by_cases hff : F.fault = 0
            · have HFF := hid hff
              rw [hff] at HNX
              clear hff
              go_wp2_with (first
                | (go_at_call 14; refine HNX.out.mono ?_; rintro e w5 ⟨t5, h5, k5, f5, ev5, y5, rfl, _, h05⟩; obtain ⟨he05, hy05⟩ := h05 rfl; subst he05; subst hy05; have A5 := hid ((I.out.al.call h5 k5 f5).mv ((Q.refl w5).alloc (.cells (eC ev0 nilS) 41))); clear h5 k5 f5 h05)
                | (go_at_call 19; refine (done_any rb F t5 _ A5.out.h).mono ?_; rintro e w6 ⟨rfl, rfl⟩))
              have hb := (HBN.out _ _ HSTOP.out.1).1 (by rw [← HKE.out, ← HSTOP.out.2]; exact HFF.out)
              rw [← HKE.out, ← HSTOP.out.2] at hb
              have HB := hid hb
              have HFL := hid (show F.held.length ≤ K.held.length from by rw [HSTOP.out.2]; exact Nat.le_trans (finA_len _) (runA_ok _ _ HKO.out (Nat.le_refl _)).2)
              clear hb
              go_roundw
              case rel => exact ⟨F, t5, ⟨x2a, x2n, x2c⟩, ⟨y2a, y2n, y2c⟩, ⟨r2, n2, c2⟩, L2, bd2, zs.drop m, i + 1, rfl, rfl, rfl, by have hif := HNUM.out.2.2.2.2.2.2.2; have e9 : wrap64 ((i : Int) + 1) = ((i + 1 : Nat) : Int) := by { unfold wrap64; omega }; exact congrArg (Value.int .i64) e9, ⟨A5.out, HB.out, by have h1 := HFL.out; have h2 := HKM.out; have h3 := HNUM.out; have h4 := HM.out; rw [List.length_drop]; omega, fun y hy => R.out.z y (List.mem_of_mem_drop hy), by have h3 := HNUM.out; have h4 := HM.out; rw [List.length_drop]; omega⟩⟩
              case measure => have h4 := HM.out; have h5 := HN2.out; show n2 < rn; omega
            · have HFF := hid hff
              have hfb : (F.fault != 0) = true := by simp [hff]
              clear hff
              go_wp2_with (first
                | (go_at_call 14; refine HNX.out.mono ?_; rintro e w5 ⟨t5, h5, k5, f5, ev5, y5, rfl, _, h05⟩; obtain ⟨he05, hy05⟩ := h05 rfl; subst he05; subst hy05; have A5 := hid ((I.out.al.call h5 k5 f5).mv ((Q.refl w5).alloc (.cells (eC ev0 nilS) 41))); clear h5 k5 f5 h05)
                | (go_at_call 19; refine (done_any rb F t5 _ A5.out.h).mono ?_; rintro e w6 ⟨rfl, rfl⟩))
              (try simp only [Exit.inBlock, Exit.then]); refine bodyPost_ret (results_tmp4 rfl _ _ _) rfl ?_
              have hb := (HBN.out _ _ HSTOP.out.1).2 (by rw [← HKE.out, ← HSTOP.out.2]; exact HFF.out)
              rw [← HKE.out, ← HSTOP.out.2] at hb
              exact allP_of A5.out hb.1 hb.2.1 hb.2.2
end Go.Proofs.Ytdlefmlienfjhaa
