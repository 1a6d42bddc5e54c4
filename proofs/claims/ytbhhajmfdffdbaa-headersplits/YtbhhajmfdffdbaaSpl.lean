/-
  What header.Split does: contracts that the statements' walks use.
-/
import Derived.Test.YtbhhajmfdffdbaaPar
namespace Go.Proofs.Ytbhhajmfdffdbaa
open Go.RowKit
set_option linter.unusedVariables false
set_option maxRecDepth 20000

/-- A piece: its header, where it begins, where its header ends, where it ends. -/
abbrev Pc := Hd × Int × Int × Int
/-- All pieces from a place on: the pieces, the error's number. -/
def spl (zs : List Int) (cid : Int) : Nat → Int → List Pc → List Pc × Int
  | 0, P, acc => (acc, 0)
  | k + 1, P, acc => if (zs.length : Int) ≤ P then (acc, 0) else
    match hdrO zs cid P with
    | .ok H q => spl zs cid k (q + behM zs.length H.kind H.len q) (acc ++ [(H, P, q, q + behM zs.length H.kind H.len q)])
    | .bad x => if acc = [] then ([], x) else (acc, 0)
def splA (zs : List Int) (cid : Int) : List Pc × Int := if 16384 < zs.length then ([], 52) else if zs.length = 0 then ([], 12) else spl zs cid zs.length 0 []

theorem Out.bind_bad {α β : Type} {o : Out α} {f : α → Int → Out β} {x : Int} (h : o.bind f = .bad x) : o = .bad x ∨ ∃ a q, o = .ok a q ∧ f a q = .bad x := by
  cases o with
  | ok a q => exact .inr ⟨a, q, rfl, h⟩
  | bad y => exact .inl (by cases h; rfl)
theorem numO_bad {zs : List Int} {p x : Int} (h : numO zs p = .bad x) : x ≠ 0 := by unfold numO at h; split at h <;> cases h; omega
theorem someO_bad {zs : List Int} {p k x : Int} (h : someO zs p k = .bad x) : x ≠ 0 := by unfold someO at h; split at h <;> cases h; omega
theorem oneO_bad {zs : List Int} {p x : Int} (h : oneO zs p = .bad x) : x ≠ 0 := by unfold oneO at h; split at h <;> cases h; omega
theorem idO_bad {zs : List Int} {p x : Int} (h : idO zs p = .bad x) : x ≠ 0 := by
  rcases Out.bind_bad h with h | ⟨a, q, _, h⟩
  · exact oneO_bad h
  · split at h
    · cases h; omega
    · exact someO_bad h
theorem verO_bad {zs : List Int} {p x : Int} (h : verO zs p = .bad x) : x ≠ 0 := by
  rcases Out.bind_bad h with h | ⟨a, q, _, h⟩
  · exact someO_bad h
  · cases h
theorem versO_bad {zs : List Int} {p x : Int} (h : versO zs p = .bad x) : x ≠ 0 := by unfold versO at h; split at h <;> cases h; omega
theorem lenO_bad {zs tk : List Int} {p x : Int} (h : lenO zs tk p = .bad x) : x ≠ 0 := by
  rcases Out.bind_bad h with h | ⟨a, q, _, h⟩
  · exact numO_bad h
  · split at h <;> cases h; omega
theorem fillO_bad {zs : List Int} {k p x : Int} (h : fillO zs k p = .bad x) : x ≠ 0 := by
  unfold fillO at h
  split at h
  · split at h
    · cases h; omega
    · rcases Out.bind_bad h with h | ⟨a, q, _, h⟩
      · exact someO_bad h
      · cases h
  · split at h
    · rcases Out.bind_bad h with h | ⟨a, q, _, h⟩
      · exact numO_bad h
      · rcases Out.bind_bad h with h | ⟨a, q, _, h⟩
        · exact someO_bad h
        · exact lenO_bad h
    · exact lenO_bad h
theorem hdrO_bad {zs : List Int} {cid p x : Int} (h : hdrO zs cid p = .bad x) : x ≠ 0 := by
  unfold hdrO at h
  split at h
  · cases h; omega
  rcases Out.bind_bad h with h | ⟨m, q, _, h⟩
  · exact oneO_bad h
  split at h
  · unfold longO at h
    rcases Out.bind_bad h with h | ⟨ve, q, _, h⟩
    · exact verO_bad h
    rcases Out.bind_bad h with h | ⟨d, q, _, h⟩
    · exact idO_bad h
    rcases Out.bind_bad h with h | ⟨s, q, _, h⟩
    · exact idO_bad h
    split at h
    · rcases Out.bind_bad h with h | ⟨vs, q, _, h⟩
      · exact versO_bad h
      · cases h
    split at h
    · split at h
      · cases h; omega
      · rcases Out.bind_bad h with h | ⟨tl, q, _, h⟩
        · exact fillO_bad h
        · cases h
    · cases h
  · split at h
    · cases h; omega
    · rcases Out.bind_bad h with h | ⟨d, q, _, h⟩
      · exact someO_bad h
      · cases h

abbrev Pd := Pc × Sv × Sv × Sv × Sv
abbrev pc (t : Pd) : Array Value := pcells t.1.1 t.2.1 t.2.2.1 t.2.2.2.1 t.2.2.2.2 t.1.2.1 t.1.2.2.1 t.1.2.2.2
abbrev flatP (l : List Pd) : List Value := l.flatMap fun t => (pc t).toList
theorem flatP_len (l : List Pd) : (flatP l).length = l.length * 10 := by
  induction l with
  | nil => rfl
  | cons x r ih => simp only [flatP, List.flatMap_cons, List.length_append, List.length_cons] at ih ⊢; rw [ih]; simp; omega
/-- A slice that holds these pieces, made since the heap had B blocks. -/
structure Pcs (B : Nat) (w : World) (x : Sv) (l : List Pd) : Prop where
  sub : Sub w 51 10 x.a x.n x.c (flatP l)
  new : New B x
  hold : ∀ t ∈ l, Holds B w t.1.1 t.2.1 t.2.2.1 t.2.2.2.1 t.2.2.2.2
  ne : ∀ t ∈ l, ∀ i, blk x.a = some i → blk t.2.1.a ≠ some i ∧ blk t.2.2.1.a ≠ some i ∧ blk t.2.2.2.1.a ≠ some i ∧ blk t.2.2.2.2.a ≠ some i
theorem Pcs.len {B : Nat} {w : World} {x : Sv} {l : List Pd} (h : Pcs B w x l) : l.length = x.n := by
  have := h.sub.1; rw [flatP_len] at this; omega
theorem Pcs.keep {F : Nat → Prop} {B : Nat} {w w' : World} {x : Sv} {l : List Pd} (h : Pcs B w x l) (k : Keep F w w') (hF : ∀ i, F i → i < B ∨ w.heap.size ≤ i) : Pcs B w' x l :=
  ⟨sub_keepN h.sub h.new k hF, h.new, fun t ht => (h.hold t ht).keep k hF, h.ne⟩
theorem Pcs.q {B : Nat} {w w' : World} {x : Sv} {l : List Pd} (h : Pcs B w x l) (k : Q w w') : Pcs B w' x l := h.keep (Keep.ofQ (F := fun _ => False) k) (fun _ f => f.elim)
theorem pcs_nil (B : Nat) (w : World) : Pcs B w nilS [] := ⟨sub_nil _ _ _, new_nil _, (by intro t ht; cases ht), (by intro t ht; cases ht)⟩
theorem info51 : (Try.prog.info? 51).map (fun i => (i.zero, i.size, i.bytes)) = some (some (.agg (pcells zh nilS nilS nilS nilS 0 0 0)), 10, 144) := by kernel_rfl
theorem pcells_each (t : Pd) : ∀ u ∈ (pc t).toList, u.oneCell' = true := by
  intro u hu
  have := pcells_one t.1.1 t.2.1 t.2.2.1 t.2.2.2.1 t.2.2.2.2 t.1.2.1 t.1.2.2.1 t.1.2.2.2
  rw [Array.all_eq_true'] at this
  exact this u (Array.mem_toList_iff.1 hu)
/-- append of one piece. -/
theorem pcs_push {B : Nat} {w : World} {x : Sv} {l : List Pd} {t : Pd} (h : Pcs B w x l) (hh : Holds B w t.1.1 t.2.1 t.2.2.1 t.2.2.2.1 t.2.2.2.2) (hnew : ∀ i, blk x.a = some i → blk t.2.1.a ≠ some i ∧ blk t.2.2.1.a ≠ some i ∧ blk t.2.2.2.1.a ≠ some i ∧ blk t.2.2.2.2.a ≠ some i) (hB : B ≤ w.heap.size) (hn : x.n ≤ 100000) :
    ∃ y w', (Builtin.append_ #[44, 44] 44 #[.slice x.a x.n x.c, .slice (some ⟨w.heap.size, 0, none⟩) 1 1]).run Try.prog (w.alloc (.cells (pc t) 51)) = .ok (.slice y.a y.n y.c) w' ∧ Pcs B w' y (l ++ [t]) ∧ Keep (fun b => blk x.a = some b) w w' := by
  obtain ⟨i0, hi, hz0, hz1, hz2⟩ := info_parts info51
  have hq : Q w (w.alloc (.cells (pc t) 51)) := (Q.refl w).alloc _
  have hg : (w.alloc (.cells (pc t) 51)).heap[w.heap.size]? = some (.cells (pc t) 51 (0, 0)) := heap_alloc_new w _
  have hsrc : ∀ j u, (pc t).toList[j]? = some u → (w.alloc (.cells (pc t) 51)).cell? ((⟨w.heap.size, 0, none⟩ : Addr).add j) = some u := by
    intro j u hj
    rw [addr_add, cell_of_row _ _ _ _ 51 (0, 0) hg, Nat.zero_add]
    rw [← hj]; simp
  obtain ⟨a', cap', w', hr, h1, h2, h3⟩ := sub_append (P := Try.prog) (ty := 44) Try.underlying44 hi hz0 hz1 hz2 rfl (h.sub.q hq) (Src.ofSlice _ Try.underlying44 ⟨w.heap.size, 0, none⟩ 1 1 (pc t).toList (by simp) hsrc (pcells_each t)) (by unfold maxLen; omega) (by omega)
  have hk : Keep (fun b => blk x.a = some b) w w' := (Keep.ofQ hq).trans h2
  have key : ∀ {e z : Nat} {y : Sv} {vs : List Value}, Sub w e z y.a y.n y.c vs → (∀ i, blk x.a = some i → blk y.a ≠ some i) → Sub w' e z y.a y.n y.c vs := fun hs hne => hs.keep hk (fun i hi e => hne i e hi)
  have hold' : ∀ u ∈ l ++ [t], Holds B w u.1.1 u.2.1 u.2.2.1 u.2.2.2.1 u.2.2.2.2 ∧ ∀ i, blk x.a = some i → blk u.2.1.a ≠ some i ∧ blk u.2.2.1.a ≠ some i ∧ blk u.2.2.2.1.a ≠ some i ∧ blk u.2.2.2.2.a ≠ some i := by
    intro u hu
    rcases List.mem_append.1 hu with hu | hu
    · exact ⟨h.hold u hu, h.ne u hu⟩
    · obtain rfl := List.mem_singleton.1 hu
      exact ⟨hh, hnew⟩
  refine ⟨⟨a', x.n + 1, cap'⟩, w', hr, ⟨?_, ?_, ?_, ?_⟩, hk⟩
  · show Sub _ _ _ _ _ _ (flatP _)
    rw [show flatP (l ++ [t]) = flatP l ++ (pc t).toList from by simp only [flatP, List.flatMap_append, List.flatMap_cons, List.flatMap_nil, List.append_nil]]
    exact h1
  · intro i hi'
    rcases h3 with h3 | h3
    · exact h.new i (by rw [← h3]; exact hi')
    · rw [h3] at hi'; cases hi'; simp; omega
  · intro u hu
    obtain ⟨q1, q2⟩ := hold' u hu
    exact ⟨key q1.dr (fun i e => (q2 i e).1), key q1.sr (fun i e => (q2 i e).2.1), key q1.tr (fun i e => (q2 i e).2.2.1), key q1.vr (fun i e => (q2 i e).2.2.2), q1.nd, q1.ns, q1.nt, q1.nv⟩
  · intro u hu i hi'
    obtain ⟨q1, q2⟩ := hold' u hu
    rcases h3 with h3 | h3
    · exact q2 i (by rw [← h3]; exact hi')
    · rw [h3] at hi'
      cases hi'
      have hsz : (w.alloc (.cells (pc t) 51)).heap.size = w.heap.size + 1 := by simp
      refine ⟨fun e => ?_, fun e => ?_, fun e => ?_, fun e => ?_⟩
      · have := q1.dr.lt _ e; omega
      · have := q1.sr.lt _ e; omega
      · have := q1.tr.lt _ e; omega
      · have := q1.vr.lt _ e; omega

/-- The place of the reader in memory. -/
def placeC (w : World) (rb : Nat) : Int := match w.cell? ⟨rb, 1, none⟩ with | some (.int _ p) => p | _ => 0
theorem placeC_of {w : World} {rk rb g n : Nat} {zs : List Int} {cid p : Int} (h : Rg w rk rb g n zs cid p) : placeC w rb = p := by
  unfold placeC; rw [h.rdr.c1]
/-- What Split tells. -/
def AnsS (w : World) (D : List Pc × Int) (e : Ending) (w' : World) : Prop :=
  ∃ (x : Sv) (l : List Pd), e = .returned (.tuple #[.slice x.a x.n x.c, .int .i64 D.2]) ∧ Q w w' ∧ Pcs w.heap.size w' x l ∧ l.map (·.1) = D.1

set_option maxHeartbeats 4000000 in
theorem split_small (a : Option Addr) (n c : Nat) (zs : List Int) (cid : Int) (w : World) (hl : zs.length = n) (hz : ∀ y ∈ zs, 0 ≤ y ∧ y < 256) (h0 : 0 < n) (hn : n ≤ 16384) (hs : Seg w a zs) :
    Calls Try.prog 19 #[.slice a n c, .int .i64 cid] w fun e w' => AnsS w (spl zs cid zs.length 0 []) e w' := by
  have HL := hid hl
  have HZ := hid hz
  have HS := hid hs
  have hn1 : decide (16384 < n) = false := by simp; omega
  have hn2 : ((n : Int) == 0) = false := by simp; omega
  clear hl hz hs
  go_enter Try.func19, Try.ntmps19
  go_wp2_with fail
  refine (open_rg a n c zs cid w HL.out HZ.out (by omega) HS.out).mono ?_
  rintro e w1 ⟨rk, rb, g, rfl, q1, r1, hrk, hrb, hg⟩
  have lrk := r1.lt
  have lrb := r1.rdr.lt
  have lg := lt_of_block r1.row
  have Q1 := hid q1
  have R1 := hid r1
  have S1 := q1.size
  generalize hB : w1.heap.size = B at *
  have HB := hid hB
  clear q1 r1 hB
  go_wp2
  go_loopw [4] (fun lv wr => ∃ (P : Int) (x : Sv) (l : List Pd) (k : Nat), lv = .slice x.a x.n x.c ∧ Q w wr ∧ B ≤ wr.heap.size ∧ Rg wr rk rb g n zs cid P ∧ Pcs B wr x l ∧ spl zs cid zs.length 0 [] = spl zs cid k P (l.map (·.1)) ∧ (zs.length : Int) ≤ k + P ∧ (l.length : Int) ≤ P) (fun _ wr => ((n : Int) - placeC wr rb).toNat)
  case atStart => exact ⟨0, nilS, [], zs.length, rfl, Q1.out, by have := HB.out; omega, R1.out, pcs_nil _ _, rfl, by omega, by simp⟩
  case round =>
    obtain ⟨P, ⟨xa, xn, xc⟩, l, k, rfl, hq, hBw, hr, hp, hD, hfu, hlen⟩ := hrel
    have HPC := hid (placeC_of hr)
    have c0 := hr.c0
    have hP0 := hr.p0
    have hP1 := hr.p1
    have hxl : l.length = xn := hp.len
    have HQ := hid hq
    have HR := hid hr
    have HP := hid hp
    have HD := hid hD
    clear hq hr hp hD
    go_wp2_with fail
    refine (left_any rb _ n n P 0 wr (by omega) hP0 hP1 HR.out.rdr).mono ?_
    rw [if_pos rfl]
    rintro e w2 ⟨rfl, k2, rfl⟩
    have q2 : Q wr (wr.drewN k2) := (Q.refl wr).drewN k2
    have HQ2 := hid (HQ.out.trans q2)
    have R2 := hid (HR.out.q q2)
    have P2 := hid (HP.out.q q2)
    have hB2 : B ≤ (wr.drewN k2).heap.size := hBw
    clear q2 HQ HR HP c0
    generalize wr.drewN k2 = w2 at *
    by_cases hPn : P < n
    rotate_left
    · have e1 : decide (0 < (n : Int) - P) = false := by simp; omega
      have HD2 := hid (show spl zs cid zs.length 0 [] = (l.map (·.1), 0) from by
        rw [HD.out]
        cases k with
        | zero => rfl
        | succ k => rw [spl, if_pos (by rw [HL.out]; omega)])
      clear HD
      go_wp2
      go_ret2
      exact ⟨⟨xa, xn, xc⟩, l, by rw [HD2.out]; rfl, HQ2.out, ⟨P2.out.sub, P2.out.new.mono S1, fun t ht => (P2.out.hold t ht).mono S1, P2.out.ne⟩, by rw [HD2.out]⟩
    have e1 : decide (0 < (n : Int) - P) = true := by simp; omega
    obtain ⟨k', rfl⟩ : ∃ k', k = k' + 1 := ⟨k - 1, by have := HL.out; omega⟩
    have HDs := hid (show spl zs cid zs.length 0 [] = match hdrO zs cid P with | .ok H q => spl zs cid k' (q + behM n H.kind H.len q) (l.map (·.1) ++ [(H, P, q, q + behM n H.kind H.len q)]) | .bad x => if l.map (·.1) = [] then ([], x) else (l.map (·.1), 0) from by
      rw [HD.out, spl, if_neg (by rw [HL.out]; omega), HL.out])
    clear HD
    go_wp2_with fail
    refine (packet_at rk rb g n zs cid P w2 R2.out).mono ?_
    rintro e w3 ⟨hk, ⟨H, q, v, ho, rfl, ⟨dS, sS, tS, vS, rfl, hh⟩, hr⟩ | ⟨x, ho, rfl⟩⟩
    · have hpl := hdrO_pl R2.out.pl_ ho
      rw [HL.out] at hpl
      have HD3 := hid (show spl zs cid zs.length 0 [] = spl zs cid k' (q + behM n H.kind H.len q) (l.map (·.1) ++ [(H, P, q, q + behM n H.kind H.len q)]) from by rw [HDs.out, ho])
      have hq0 : 0 ≤ q := hr.p0
      have hbh0 := hpl.2.2.1
      have hbh1 := hpl.2.2.2
      have hPq := hpl.2.1
      generalize hbm : behM n H.kind H.len q = bh at *
      have Q3 := hid (show Q w w3 from hk.below HQ2.out HQ2.out.size (fun i e => by omega))
      have P3 := hid (P2.out.keep hk (fun i e => .inl (by omega)))
      have hs3 := hk.size
      have hq3 := Q3.out.size
      have R3 := hid hr
      have H3 := hid hh
      have LT3 := hid P2.out.sub.lt
      clear hk ho hr hh hpl HDs HQ2 P2 hbm
      go_wp2_with (refine wpList_store_row rfl 51 _ _ rfl w3.heap.size (pcells H dS sS tS vS P q (q + bh)) rfl rfl 51 _ (heap_alloc_new w3 _) (pcells_info _ _ _ _ _ _ _ _) rfl (pcells_one _ _ _ _ _ _ _ _) ?_; refine Hid.out ?_)
      refine hid ?_
      generalize hw4 : World.setRow _ _ _ = w4
      have k4 : Keep (fun i => i = w3.heap.size) w3 w4 := by rw [← hw4]; exact ((Keep.refl (fun i => i = w3.heap.size) w3).alloc _).setRow _ _ (.inl rfl)
      have b4 : PBox w4 w3.heap.size H dS sS tS vS P q (q + bh) := by rw [← hw4]; exact setRow_heap _ _ _ _ 51 _ (heap_alloc_new w3 _)
      clear hw4
      have Q4 := hid (show Q w w4 from k4.below Q3.out Q3.out.size (fun i e => by omega))
      have P4 := hid (P3.out.keep k4 (fun i e => .inr (by omega)))
      have r4 := R3.out.keepNew k4 R2.out (fun i e => by omega)
      have H4 := hid (H3.out.keep k4 (fun i e => .inr (by omega)))
      have hs4 := k4.size
      have hlt4 := lt_of_block b4
      have hl4 : l.length ≤ 16384 := by omega
      obtain ⟨y, w5, hrun, hp5, hk5⟩ := pcs_push (B := B) (w := w4) (x := ⟨xa, xn, xc⟩) (l := l) (t := ((H, P, q, q + bh), dS, sS, tS, vS)) P4.out (H4.out.mono (by omega)) (fun i e => by
        have hlt := LT3.out i e
        exact ⟨fun e2 => by have := H4.out.nd i e2; omega, fun e2 => by have := H4.out.ns i e2; omega, fun e2 => by have := H4.out.nt i e2; omega, fun e2 => by have := H4.out.nv i e2; omega⟩) (by omega) (by show xn ≤ 100000; omega)
      have hnx : ∀ i, i < B ∨ i = w3.heap.size → ¬ blk xa = some i := fun i hi e => by
        have h1 := P4.out.new i e
        have h2 := LT3.out i e
        rcases hi with hi | hi <;> omega
      have b5 : PBox w5 w3.heap.size H dS sS tS vS P q (q + bh) := (hk5.block _ hlt4 (hnx _ (.inr rfl))).trans b4
      have r5 := r4.keep hk5 (hnx _ (.inl (by omega))) (hnx _ (.inl (by omega))) (hnx _ (.inl (by omega)))
      have Q5 := hid (show Q w w5 from hk5.below Q4.out Q4.out.size (fun i e => by have := P4.out.new i e; omega))
      have hs5 := hk5.size
      have P5 := hid hp5
      have R5 := hid r5
      have B5 := hid b5
      have d0 := b4.cell 0 _ rfl
      have d1 := b4.cell 1 _ rfl
      have d2 := b4.cell 2 _ rfl
      have d3 := b4.cell 3 _ rfl
      have d4 := b4.cell 4 _ rfl
      have d5 := b4.cell 5 _ rfl
      have d6 := b4.cell 6 _ rfl
      have d7 := b4.cell 7 _ rfl
      have d8 := b4.cell 8 _ rfl
      have d9 := b4.cell 9 _ rfl
      obtain ⟨ya, yn, yc⟩ := y
      have hwr : IntKind.i64.wrap (q + bh - q) = bh := by rw [wrap_i64]; omega
      generalize hpb : w3.heap.size = pb at *
      clear k4 b4 r4 hk5 hp5 b5 r5 Q3 P3 R3 H3 Q4 P4 H4 LT3 hpb hnx
      go_wp2_with (at_builtin; refine Lib.wpList_append_run _ rfl _ _ _ _ rfl _ _ rfl rfl _ _ hrun ?_)
      clear d0 d1 d2 d3 d4 d5 d6 d7 d8 d9 hrun
      have s0 := R5.out.c0
      have s8 := PBox.cell B5.out 8 _ rfl
      have s9 := PBox.cell B5.out 9 _ rfl
      have HBY := hid (fun u (hu : Q w5 u) => bytes_any rb _ n n zs q 0 bh u HL.out (by omega) (Nat.le_refl _) (R5.out.q hu).p0 (R5.out.q hu).p1 (R5.out.q hu).off (R5.out.q hu).rdr)
      have hrr : rk ≠ rb := R5.out.d1
      have hpr : pb ≠ rb := by omega
      have hwb : IntKind.i64.wrap bh = bh := by rw [wrap_i64]; omega
      go_region_held3 (fun w' => w'.cell? ⟨rk, 0, none⟩ = some (.pointer (some ⟨rb, 0, none⟩)) ∧ w'.cell? ⟨pb, 8, none⟩ = some (.int .i64 q) ∧ w'.cell? ⟨pb, 9, none⟩ = some (.int .i64 (q + bh))) (simp [go_sem, *])
        ((go_at_call 42; (try rw [hwb]); refine (HBY.out _ (by repeat (first | exact Q.refl _ | apply Q.drewN | apply Q.drew))).mono ?_; rintro e w6 ⟨g6, m6, rfl, ho6, hr6, hown6, hm6⟩; have k0 : w6.cell? ⟨rk, 0, none⟩ = some (.pointer (some ⟨rb, 0, none⟩)) := ho6.cell s0 hrr; have k8 : w6.cell? ⟨pb, 8, none⟩ = some (.int .i64 q) := ho6.cell s8 hpr; have k9 : w6.cell? ⟨pb, 9, none⟩ = some (.int .i64 (q + bh)) := ho6.cell s9 hpr))
      have q51 : Q w5 (w5.drewN 1) := (Q.refl w5).drewN 1
      have hk6 : Keep (fun k => k = rb) w5 w6 := Keep.ofDrewN (n := 1) ho6.keep
      rw [take_small hbh0, if_neg (by have := HL.out; omega)] at hr6
      dsimp only at hr6
      have r6 := R5.out.turn hk6 hr6 (by omega) (by omega)
      have hs6 := hk6.size
      have HQ6 := hid (show Q w w6 from hk6.below Q5.out Q5.out.size (fun i e => by omega))
      have HP6 := hid (show Pcs B w6 ⟨ya, yn, yc⟩ (l ++ [((H, P, q, q + bh), dS, sS, tS, vS)]) from P5.out.keep hk6 (fun i e => .inl (by omega)))
      have HR6 := hid r6
      have HMS := hid (placeC_of r6)
      clear ho6 hk6 hr6 r6 hown6 hm6 q51 s0 s8 s9 k0 k8 k9 R5 Q5 P5 B5 HBY
      go_wp2
      go_roundw
      case rel => exact ⟨q + bh, ⟨ya, yn, yc⟩, l ++ [((H, P, q, q + bh), dS, sS, tS, vS)], k', rfl, HQ6.out, by omega, HR6.out, HP6.out, by rw [HD3.out]; simp, by have := HL.out; omega, by simp; omega⟩
      case measure =>
        have h1 := HMS.out
        have h2 := HPC.out
        first
          | (rw [h1, h2]; omega)
          | (simp only [h1, h2]; omega)
          | (simp [h1, h2]; omega)
    · have hx : x ≠ 0 := hdrO_bad ho
      have hx' : (x != 0) = true := by simp [hx]
      have HD3 := hid (show spl zs cid zs.length 0 [] = if l.map (·.1) = [] then ([], x) else (l.map (·.1), 0) from by rw [HDs.out, ho])
      have Q3 := hid (show Q w w3 from hk.below HQ2.out HQ2.out.size (fun i e => by omega))
      have P3 := hid (P2.out.keep hk (fun i e => .inl (by omega)))
      have hs3 := hk.size
      have hq3 := Q3.out.size
      clear hk ho HDs HQ2 P2 hx
      go_wp2_with (refine wpList_store_row rfl 51 _ _ rfl w3.heap.size (pcells zh nilS nilS nilS nilS 0 0 0) rfl rfl 51 _ (heap_alloc_new w3 _) (pcells_info _ _ _ _ _ _ _ _) rfl (pcells_one _ _ _ _ _ _ _ _) ?_; refine Hid.out ?_)
      refine hid ?_
      generalize hw4 : World.setRow _ _ _ = w4
      have k4 : Keep (fun i => i = w3.heap.size) w3 w4 := by rw [← hw4]; exact ((Keep.refl (fun i => i = w3.heap.size) w3).alloc _).setRow _ _ (.inl rfl)
      have b4 : PBox w4 w3.heap.size zh nilS nilS nilS nilS 0 0 0 := by rw [← hw4]; exact setRow_heap _ _ _ _ 51 _ (heap_alloc_new w3 _)
      clear hw4
      have Q4 := hid (show Q w w4 from k4.below Q3.out Q3.out.size (fun i e => by omega))
      have P4 := hid (P3.out.keep k4 (fun i e => .inr (by omega)))
      clear k4 b4 Q3 P3
      by_cases h0 : xn = 0
      · have h0' : ((xn : Int) == 0) = true := by simp [h0]
        have HD4 := hid (show spl zs cid zs.length 0 [] = ([], x) from by rw [HD3.out, if_pos (by rw [h0] at hxl; simp [List.length_eq_zero_iff.1 hxl])])
        clear HD3
        go_wp2
        go_ret2
        exact ⟨nilS, [], by rw [HD4.out]; rfl, Q4.out, pcs_nil _ _, by rw [HD4.out]; rfl⟩
      · have h0' : ((xn : Int) == 0) = false := by simp [h0]
        have HD4 := hid (show spl zs cid zs.length 0 [] = (l.map (·.1), 0) from by rw [HD3.out, if_neg (by intro e; have := congrArg List.length e; simp at this; rw [this] at hxl; simp at hxl; omega)])
        clear HD3
        go_wp2
        go_ret2
        exact ⟨⟨xa, xn, xc⟩, l, by rw [HD4.out]; rfl, Q4.out, ⟨P4.out.sub, P4.out.new.mono S1, fun t ht => (P4.out.hold t ht).mono S1, P4.out.ne⟩, by rw [HD4.out]⟩
end Go.Proofs.Ytbhhajmfdffdbaa
