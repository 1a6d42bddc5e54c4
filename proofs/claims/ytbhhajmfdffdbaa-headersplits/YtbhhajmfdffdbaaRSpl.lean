/-
  What the document's Split does: a contract that the statements' walks use.
-/
import Derived.Test.YtbhhajmfdffdbaaRPar
import Derived.Test.YtbhhajmfdffdbaaShM
import Derived.Test.YtbhhajmfdffdbaaTileM
namespace Go.Proofs.Ytbhhajmfdffdbaa
open Go.RowKit
set_option linter.unusedVariables false
set_option maxRecDepth 20000

/-- A slice that holds these pieces, made since the heap had B blocks. -/
structure Dcs (B : Nat) (w : World) (x : Sv) (l : List Pd) : Prop where
  sub : Sub w 53 10 x.a x.n x.c (flatP l)
  new : New B x
  hold : ∀ t ∈ l, Holds B w t.1.1 t.2.1 t.2.2.1 t.2.2.2.1 t.2.2.2.2
  ne : ∀ t ∈ l, ∀ i, blk x.a = some i → blk t.2.1.a ≠ some i ∧ blk t.2.2.1.a ≠ some i ∧ blk t.2.2.2.1.a ≠ some i ∧ blk t.2.2.2.2.a ≠ some i
theorem Dcs.len {B : Nat} {w : World} {x : Sv} {l : List Pd} (h : Dcs B w x l) : l.length = x.n := by
  have := h.sub.1; rw [flatP_len] at this; omega
theorem Dcs.keep {F : Nat → Prop} {B : Nat} {w w' : World} {x : Sv} {l : List Pd} (h : Dcs B w x l) (k : Keep F w w') (hF : ∀ i, F i → i < B ∨ w.heap.size ≤ i) : Dcs B w' x l :=
  ⟨sub_keepN h.sub h.new k hF, h.new, fun t ht => (h.hold t ht).keep k hF, h.ne⟩
theorem Dcs.q {B : Nat} {w w' : World} {x : Sv} {l : List Pd} (h : Dcs B w x l) (k : Q w w') : Dcs B w' x l := h.keep (Keep.ofQ (F := fun _ => False) k) (fun _ f => f.elim)
theorem dcs_nil (B : Nat) (w : World) : Dcs B w nilS [] := ⟨sub_nil _ _ _, new_nil _, (by intro t ht; cases ht), (by intro t ht; cases ht)⟩
theorem info53 : (Try.prog.info? 53).map (fun i => (i.zero, i.size, i.bytes)) = some (some (.agg (pcells zh nilS nilS nilS nilS 0 0 0)), 10, 144) := by kernel_rfl
/-- append of one piece. -/
theorem dcs_push {B : Nat} {w : World} {x : Sv} {l : List Pd} {t : Pd} (h : Dcs B w x l) (hh : Holds B w t.1.1 t.2.1 t.2.2.1 t.2.2.2.1 t.2.2.2.2) (hnew : ∀ i, blk x.a = some i → blk t.2.1.a ≠ some i ∧ blk t.2.2.1.a ≠ some i ∧ blk t.2.2.2.1.a ≠ some i ∧ blk t.2.2.2.2.a ≠ some i) (hB : B ≤ w.heap.size) (hn : x.n ≤ 100000) :
    ∃ y w', (Builtin.append_ #[47, 47] 47 #[.slice x.a x.n x.c, .slice (some ⟨w.heap.size, 0, none⟩) 1 1]).run Try.prog (w.alloc (.cells (pc t) 53)) = .ok (.slice y.a y.n y.c) w' ∧ Dcs B w' y (l ++ [t]) ∧ Keep (fun b => blk x.a = some b) w w' := by
  obtain ⟨i0, hi, hz0, hz1, hz2⟩ := info_parts info53
  have hq : Q w (w.alloc (.cells (pc t) 53)) := (Q.refl w).alloc _
  have hg : (w.alloc (.cells (pc t) 53)).heap[w.heap.size]? = some (.cells (pc t) 53 (0, 0)) := heap_alloc_new w _
  have hsrc : ∀ j u, (pc t).toList[j]? = some u → (w.alloc (.cells (pc t) 53)).cell? ((⟨w.heap.size, 0, none⟩ : Addr).add j) = some u := by
    intro j u hj
    rw [addr_add, cell_of_row _ _ _ _ 53 (0, 0) hg, Nat.zero_add]
    rw [← hj]; simp
  obtain ⟨a', cap', w', hr, h1, h2, h3⟩ := sub_append (P := Try.prog) (ty := 47) Try.underlying47 hi hz0 hz1 hz2 rfl (h.sub.q hq) (Src.ofSlice _ Try.underlying47 ⟨w.heap.size, 0, none⟩ 1 1 (pc t).toList (by simp) hsrc (pcells_each t)) (by unfold maxLen; omega) (by omega)
  have hk : Keep (fun b => blk x.a = some b) w w' := (Keep.ofQ hq).trans h2
  have key : ∀ {e z : Nat} {y : Sv} {vs : List Value}, Sub w e z y.a y.n y.c vs → (∀ i, blk x.a = some i → blk y.a ≠ some i) → Sub w' e z y.a y.n y.c vs := fun hs hne => hs.keep hk (fun i hi e => hne i e hi)
  have hold' : ∀ u ∈ l ++ [t], Holds B w u.1.1 u.2.1 u.2.2.1 u.2.2.2.1 u.2.2.2.2 ∧ ∀ i, blk x.a = some i → blk u.2.1.a ≠ some i ∧ blk u.2.2.1.a ≠ some i ∧ blk u.2.2.2.1.a ≠ some i ∧ blk u.2.2.2.2.a ≠ some i := by
    intro u hu
    rcases List.mem_append.1 hu with hu | hu
    · exact ⟨h.hold u hu, h.ne u hu⟩
    · obtain rfl := List.mem_singleton.1 hu
      exact ⟨hh, hnew⟩
  refine ⟨⟨a', x.n + 1, cap'⟩, w', hr, ⟨?_, ?_, ?_, ?_⟩, hk⟩
  · show Sub _ _ _ _ _ _ (flatP _)
    rw [show flatP (l ++ [t]) = flatP l ++ (pc t).toList from by simp only [flatP, List.flatMap_append, List.flatMap_cons, List.flatMap_nil, List.append_nil]]
    exact h1
  · intro i hi'
    rcases h3 with h3 | h3
    · exact h.new i (by rw [← h3]; exact hi')
    · rw [h3] at hi'; cases hi'; simp; omega
  · intro u hu
    obtain ⟨q1, q2⟩ := hold' u hu
    exact ⟨key q1.dr (fun i e => (q2 i e).1), key q1.sr (fun i e => (q2 i e).2.1), key q1.tr (fun i e => (q2 i e).2.2.1), key q1.vr (fun i e => (q2 i e).2.2.2), q1.nd, q1.ns, q1.nt, q1.nv⟩
  · intro u hu i hi'
    obtain ⟨q1, q2⟩ := hold' u hu
    rcases h3 with h3 | h3
    · exact q2 i (by rw [← h3]; exact hi')
    · rw [h3] at hi'
      cases hi'
      have hsz : (w.alloc (.cells (pc t) 53)).heap.size = w.heap.size + 1 := by simp
      refine ⟨fun e => ?_, fun e => ?_, fun e => ?_, fun e => ?_⟩
      · have := q1.dr.lt _ e; omega
      · have := q1.sr.lt _ e; omega
      · have := q1.tr.lt _ e; omega
      · have := q1.vr.lt _ e; omega


/-- What the document's Split tells. -/
def AnsZ (w : World) (D : List Pc × Int) (e : Ending) (w' : World) : Prop :=
  ∃ (x : Sv) (l : List Pd), e = .returned (.tuple #[.slice x.a x.n x.c, .int .i64 D.2]) ∧ Q w w' ∧ Dcs w.heap.size w' x l ∧ l.map (·.1) = D.1
theorem slice_from (a : Option Addr) (n c p : Nat) (hpn : p ≤ n) (hnc : n ≤ c) (u : World) :
    (Instr.slice 22 (.slice a n c) (some (.int .i64 p)) none none).run Try.prog u = .ok (.slice (if c = p then a else a.map (·.add p)) (n - p) (c - p)) u := by
  have h := run_slice_l (P := Try.prog) u 22 a n c Try.underlying22 .i64 p (by omega) (by omega)
  rw [h]
  obtain ⟨i0, hi, hz0, hz1, hz2⟩ := info_parts info5
  have e : Try.prog.elem 22 = 5 := by kernel_rfl
  simp [sizeOf, typeInfo, e, hi, hz1, sliced, Result.andThen]
set_option maxHeartbeats 4000000 in
theorem rsplit_small (a : Option Addr) (n c : Nat) (zs : List Int) (cid : Int) (w : World) (hl : zs.length = n) (hz : ∀ y ∈ zs, 0 ≤ y ∧ y < 256) (h0 : 0 < n) (hn : n ≤ 16384) (hnc : n ≤ c) (hs : Seg w a zs) :
    Calls Try.prog 20 #[.slice a n c, .int .i64 cid] w fun e w' => AnsZ w (spl zs cid zs.length 0 []) e w' := by
  have HL := hid hl
  have HZ := hid hz
  have HS := hid hs
  have hn1 : decide (16384 < n) = false := by simp; omega
  have hn2 : ((n : Int) == 0) = false := by simp; omega
  clear hl hz hs
  go_enter Try.func20, Try.ntmps20
  go_wp2
  go_loopw [6, 7] (fun lv fv wr => ∃ (P : Nat) (x : Sv) (l : List Pd) (k : Nat), lv = .slice x.a x.n x.c ∧ fv = .int .i64 P ∧ P ≤ n ∧ Q w wr ∧ Dcs w.heap.size wr x l ∧ spl zs cid zs.length 0 [] = spl zs cid k P (l.map (·.1)) ∧ zs.length ≤ k + P ∧ l.length ≤ P ∧ (l = [] → P = 0) ∧ (l ≠ [] → 0 < P)) (fun _ fv _ => ((n : Int) - intOf fv).toNat)
  case atStart => exact ⟨0, nilS, [], zs.length, rfl, rfl, Nat.zero_le _, Q.refl _, dcs_nil _ _, rfl, by omega, by simp, fun _ => rfl, fun h => absurd rfl h⟩
  case round =>
    obtain ⟨P, ⟨xa, xn, xc⟩, l, k, rfl, rfl, hPn', hq, hp, hD, hfu, hlen, hl0, hl1⟩ := hrel
    have hxl : l.length = xn := hp.len
    have HQ := hid hq
    have HP := hid hp
    have HD := hid hD
    clear hq hp hD
    by_cases hPn : P < n
    rotate_left
    · have e1 : decide ((P : Int) < (n : Int)) = false := by simp; omega
      have e2 : ¬ (P : Int) < (n : Int) := by omega
      have HD2 := hid (show spl zs cid zs.length 0 [] = (l.map (·.1), 0) from by
        rw [HD.out]
        cases k with
        | zero => rfl
        | succ k => rw [spl, if_pos (by rw [HL.out]; omega)])
      clear HD
      go_wp2
      go_ret2
      exact ⟨⟨xa, xn, xc⟩, l, by rw [HD2.out]; rfl, HQ.out, HP.out, by rw [HD2.out]⟩
    have e1 : (P : Int) < (n : Int) := by omega
    obtain ⟨k', rfl⟩ : ∃ k', k = k' + 1 := ⟨k - 1, by have := HL.out; omega⟩
    have HPM := hid (hdrO_parM (zs := zs) (P := P) (by have := HL.out; omega) (cid := cid) HZ.out)
    have HDs := hid (show spl zs cid zs.length 0 [] = match hdrO zs cid P with | .ok H q => spl zs cid k' (q + behM zs.length H.kind H.len q) (l.map (·.1) ++ [(H, (P : Int), q, q + behM zs.length H.kind H.len q)]) | .bad x => if l.map (·.1) = [] then ([], x) else (l.map (·.1), 0) from by
      rw [HD.out, spl, if_neg (by rw [HL.out]; omega)]
      cases hdrO zs cid P <;> rfl)
    clear HD
    have hsl := slice_from a n c P (by omega) hnc
    have SG := hid (show Seg wr (if c = P then a else a.map (·.add P)) (zs.drop P) from by
      have := seg_cut (c := c) (p := P) (k := n - P) (HS.out.q HQ.out) (by have := HL.out; omega) (by have := HL.out; omega)
      rwa [List.take_of_length_le (by rw [List.length_drop, HL.out]; omega)] at this)
    have HRP := hid (rparse_any (if c = P then a else a.map (·.add P)) (n - P) (c - P) (zs.drop P) cid wr (by rw [List.length_drop, HL.out]) (fun y hy => HZ.out y (List.mem_of_mem_drop hy)) (by omega) (by omega) SG.out)
    generalize (if c = P then a else a.map (·.add P)) = a' at *
    generalize hn' : n - P = n' at *
    generalize hc' : c - P = c' at *
    go_wp2_with fail
    refine HRP.out.mono ?_
    intro e w3 hp
    unfold AnsR at hp
    cases ho : hdrO zs cid P with
    | bad x =>
      have hpm := HPM.out
      rw [ho] at hpm
      dsimp only at hpm
      rw [hpm] at hp
      obtain ⟨dS, sS, tS, vS, rfl, hq3, hh3⟩ := hp
      have hx : x ≠ 0 := hdrO_bad ho
      have hx' : (x != 0) = true := by simp [hx]
      have HD3 := hid (show spl zs cid zs.length 0 [] = if l.map (·.1) = [] then ([], x) else (l.map (·.1), 0) from by rw [HDs.out, ho])
      have hq3' := hq3
      clear HPM HDs hpm ho hh3 hx
      go_wp2_with (refine wpList_store_row rfl 30 _ _ rfl w3.heap.size (hcells zh dS sS tS vS) rfl rfl 30 _ (heap_alloc_new w3 _) (hcells_info30 _ _ _ _ _) rfl (hcells_one _ _ _ _ _) ?_; refine Hid.out ?_)
      refine hid ?_
      generalize hw4 : World.setRow _ _ _ = w4
      have k4 : Keep (fun i => i = w3.heap.size) w3 w4 := by rw [← hw4]; exact ((Keep.refl (fun i => i = w3.heap.size) w3).alloc _).setRow _ _ (.inl rfl)
      have b4 : Box w4 30 w3.heap.size zh dS sS tS vS := by rw [← hw4]; exact setRow_heap _ _ _ _ 30 _ (heap_alloc_new w3 _)
      have q4 : Q w3 w4 := k4.toQ (fun i hi e => by omega)
      clear hw4
      have Q4 := hid ((HQ.out.trans hq3').trans q4)
      have P4 := hid ((HP.out.q hq3').q q4)
      clear k4 b4 q4 hq3 hq3' HQ HP HRP SG hsl
      by_cases h0' : l = []
      · have hP0 : P = 0 := hl0 h0'
        subst hP0
        have HD4 := hid (show spl zs cid zs.length 0 [] = ([], x) from by rw [HD3.out, if_pos (by rw [h0']; rfl)])
        clear HD3
        go_wp2
        go_ret2
        exact ⟨nilS, [], by rw [HD4.out]; rfl, Q4.out, dcs_nil _ _, by rw [HD4.out]; rfl⟩
      · have hP0 : 0 < P := hl1 h0'
        have hPz : ((P : Int) == 0) = false := by simp; omega
        have HD4 := hid (show spl zs cid zs.length 0 [] = (l.map (·.1), 0) from by rw [HD3.out, if_neg (by intro e; exact h0' (List.map_eq_nil_iff.1 e))])
        clear HD3
        go_wp2
        go_ret2
        exact ⟨⟨xa, xn, xc⟩, l, by rw [HD4.out]; rfl, Q4.out, P4.out, by rw [HD4.out]⟩
    | ok H q =>
      have hpm := HPM.out
      rw [ho] at hpm
      dsimp only at hpm
      rw [hpm] at hp
      obtain ⟨dS, sS, tS, vS, rfl, hq3, hh3⟩ := hp
      have hpl := hdrO_pl ⟨HZ.out, by omega, by have := HL.out; omega⟩ ho
      rw [HL.out] at hpl
      have HD3 := hid (show spl zs cid zs.length 0 [] = spl zs cid k' (q + behM n H.kind H.len q) (l.map (·.1) ++ [(H, (P : Int), q, q + behM n H.kind H.len q)]) from by rw [HDs.out, ho, HL.out])
      rw [HL.out]
      generalize behM n H.kind H.len q = bh at *
      obtain ⟨hp1, hp2, hp3, hp4⟩ := hpl
      obtain ⟨qa, rfl⟩ : ∃ qa, q = (P : Int) + qa := ⟨q - P, by omega⟩
      obtain ⟨ea, hea⟩ : ∃ ea, (P : Int) + qa + bh = (P : Int) + ea := ⟨qa + bh, by omega⟩
      rw [hea] at HD3 ⊢
      rw [show (P : Int) + qa - P = qa by omega, show (P : Int) + ea - P = ea by omega]
      have ha0 : 0 < qa := by omega
      have ha1 : qa ≤ ea := by omega
      have ha2 : (P : Int) + ea ≤ n := by omega
      have H3 := hid hh3
      have hs3 := hq3.size
      have hwS := HQ.out.size
      clear HPM HDs hpm ho hh3 hp1 hp2 hp3 hp4 hea
      go_wp2_with (refine wpList_store_row rfl 30 _ _ rfl w3.heap.size (hcells H dS sS tS vS) rfl rfl 30 _ (heap_alloc_new w3 _) (hcells_info30 _ _ _ _ _) rfl (hcells_one _ _ _ _ _) ?_; refine Hid.out ?_)
      refine hid ?_
      generalize hw4 : World.setRow _ _ _ = w4
      have k4 : Keep (fun i => i = w3.heap.size) w3 w4 := by rw [← hw4]; exact ((Keep.refl (fun i => i = w3.heap.size) w3).alloc _).setRow _ _ (.inl rfl)
      have b4 : Box w4 30 w3.heap.size H dS sS tS vS := by rw [← hw4]; exact setRow_heap _ _ _ _ 30 _ (heap_alloc_new w3 _)
      have q4 : Q w3 w4 := k4.toQ (fun i hi e => by omega)
      clear hw4
      have Q4 := hid ((HQ.out.trans hq3).trans q4)
      have P4 := hid ((HP.out.q hq3).q q4)
      have H4 := hid (H3.out.q q4)
      have LT := hid (HP.out.sub.lt)
      obtain ⟨⟨ya, yn, yc⟩, w5, hrun, hp5, hk5⟩ := dcs_push (B := w.heap.size) (w := w4) (x := ⟨xa, xn, xc⟩) (l := l) (t := ((H, (P : Int), (P : Int) + qa, (P : Int) + ea), dS, sS, tS, vS)) P4.out (H4.out.mono hwS) (fun i e => by
        have hlt := LT.out i e
        exact ⟨fun e2 => by have := H4.out.nd i e2; omega, fun e2 => by have := H4.out.ns i e2; omega, fun e2 => by have := H4.out.nt i e2; omega, fun e2 => by have := H4.out.nv i e2; omega⟩) (by have := q4.size; omega) (by show xn ≤ 100000; omega)
      obtain ⟨d0, d1, d2, d3, d4, d5, d6⟩ := b4.all
      have HQ5 := hid (show Q w w5 from hk5.below Q4.out Q4.out.size (fun i e => P4.out.new i e))
      have HP5 := hid hp5
      have hlt4 := b4.lt
      generalize hpb : w3.heap.size = pb at *
      clear k4 b4 q4 hq3 HQ HP HRP SG hsl H3 H4 P4 Q4 LT hk5 hp5 hpb
      go_wp2_with (at_builtin; refine Lib.wpList_append_run _ rfl _ _ _ _ rfl _ _ rfl rfl _ _ hrun ?_)
      go_roundw
      case rel => exact ⟨((P : Int) + ea).toNat, ⟨ya, yn, yc⟩, l ++ [((H, (P : Int), (P : Int) + qa, (P : Int) + ea), dS, sS, tS, vS)], k', rfl, by rw [Int.toNat_of_nonneg (by omega)], by omega, HQ5.out, HP5.out, by rw [HD3.out, Int.toNat_of_nonneg (by omega)]; simp, by omega, by simp; omega, fun h => by simp at h, fun _ => by omega⟩
      case measure => simp [intOf]; omega
set_option maxHeartbeats 1000000 in
theorem rsplit_any (a : Option Addr) (n c : Nat) (zs : List Int) (cid : Int) (w : World) (hl : zs.length = n) (hz : ∀ y ∈ zs, 0 ≤ y ∧ y < 256) (hn : n ≤ 140737488355328) (hnc : n ≤ c) (hs : Seg w a zs) :
    Calls Try.prog 20 #[.slice a n c, .int .i64 cid] w fun e w' => AnsZ w (splA zs cid) e w' := by
  by_cases h1 : 16384 < n
  · have HD := hid (show splA zs cid = ([], 52) from by unfold splA; rw [if_pos (by omega)])
    have hi : (16384 : Int) < (n : Int) := by omega
    clear hl hz hs
    go_enter Try.func20, Try.ntmps20
    go_wp2
    go_ret2
    exact ⟨nilS, [], by rw [HD.out]; rfl, Q.refl _, dcs_nil _ _, by rw [HD.out]; rfl⟩
  by_cases h0 : n = 0
  · subst h0
    have HD := hid (show splA zs cid = ([], 12) from by unfold splA; rw [if_neg (by omega), if_pos hl])
    clear hl hz hs
    go_enter Try.func20, Try.ntmps20
    go_wp2
    go_ret2
    exact ⟨nilS, [], by rw [HD.out]; rfl, Q.refl _, dcs_nil _ _, by rw [HD.out]; rfl⟩
  have e : splA zs cid = spl zs cid zs.length 0 [] := by unfold splA; rw [if_neg (by omega), if_neg (by omega)]
  rw [e]
  exact rsplit_small a n c zs cid w hl hz (by omega) (by omega) hnc hs
theorem Dcs.el {B : Nat} {w : World} {x : Sv} {l : List Pd} (h : Dcs B w x l) {j : Nat} (hj : j < l.length) : ∃ g off H d s t v fr at_ en, x.a = some ⟨g, off, none⟩ ∧ (∀ i u, (pcells H d s t v fr at_ en).toList[i]? = some u → w.cell? ⟨g, off + j * 10 + i, none⟩ = some u) ∧ Holds B w H d s t v ∧ (l.map (·.1)).getD j zp.1 = (H, fr, at_, en) := by
  obtain ⟨g, off, ha, _, hc⟩ := h.sub.some_ (by rw [← h.len]; omega)
  have hm : l.getD j zp ∈ l := by rw [List.getD_eq_getElem?_getD, List.getElem?_eq_getElem hj]; exact List.getElem_mem _
  refine ⟨g, off, (l.getD j zp).1.1, (l.getD j zp).2.1, (l.getD j zp).2.2.1, (l.getD j zp).2.2.2.1, (l.getD j zp).2.2.2.2, (l.getD j zp).1.2.1, (l.getD j zp).1.2.2.1, (l.getD j zp).1.2.2.2, ha, fun i u hu => ?_, h.hold _ hm, ?_⟩
  · have := hc _ _ (flatP_get hj hu)
    rw [Nat.add_assoc]; exact this
  · simp [List.getD_eq_getElem?_getD, hj]
end Go.Proofs.Ytbhhajmfdffdbaa
