/-
  What frame.readAll and Decode do: contracts that the statements' walks use.
-/
import Derived.Test.YtdoodbaogmdloabRa
namespace Go.Proofs.Ytdoodbaogmdloab
open Go.RowKit
set_option linter.unusedVariables false
set_option maxRecDepth 20000

/-- The place of the reader in memory. -/
def placeC (w : World) (rb : Nat) : Int := match w.cell? ⟨rb, 1, none⟩ with | some (.int _ p) => p | _ => 0
theorem placeC_of {w : World} {rk rb g : Nat} {b : Sv} {zs : List Int} {pl p : Int} (h : Rg w rk rb g b zs pl p) : placeC w rb = p := by
  unfold placeC; rw [h.rdr.c1]

/-- What readAll tells. -/
def AnsD (w : World) (D : List Fr × Int × Int) (e : Ending) (w' : World) : Prop :=
  ∃ (x : Sv) (fds : List Fd), e = .returned (.tuple #[.slice x.a x.n x.c, .int .i64 D.2.1, .int .i64 D.2.2]) ∧ Q w w' ∧ Frs w.heap.size w' x fds ∧ fds.map (·.1) = D.1

theorem vars_of {w : World} {bf ba be br rk rb : Nat} {b x : Sv} {P : Int} (vf : w.heap[bf]? = some (.cells #[.slice x.a x.n x.c] 24 (0, 0))) (va : w.heap[ba]? = some (.cells #[.int .i64 0] 3 (0, 0))) (ve : w.heap[be]? = some (.cells #[.int .i64 0] 25 (0, 0))) (vr : w.heap[br]? = some (.cells #[.pointer (some ⟨rk, 0, none⟩)] 51 (0, 0)))
    (hd : w.heap[rk]? = some (.cells #[.slice b.a b.n b.c, .pointer (some ⟨rb, 0, none⟩), .int .i64 P] 55 (0, 0))) (d1 : be ≠ br) (d2 : be ≠ bf) (d3 : be ≠ ba) (d4 : be ≠ rk) (d5 : bf ≠ ba) : Vars w be br bf ba rk P :=
  ⟨⟨0, by rw [cell_of_row w be 0 _ 25 (0, 0) ve]; rfl⟩, by rw [cell_of_row w br 0 _ 51 (0, 0) vr]; rfl, ⟨x.a, x.n, x.c, by rw [cell_of_row w bf 0 _ 24 (0, 0) vf]; rfl⟩, ⟨0, by rw [cell_of_row w ba 0 _ 3 (0, 0) va]; rfl⟩, frozen_of_row w be 0 _ 25 ve, frozen_of_row w bf 0 _ 24 vf, frozen_of_row w ba 0 _ 3 va, by rw [cell_of_row w rk 2 _ 55 (0, 0) hd]; rfl, d1, d2, d3, d4, d5⟩

theorem results42 (tmps : Array Value) (w : World) (p q r : Addr) (a : Option Addr) (n c : Nat) (x y : Int) (h2 : tmps.getD 2 undef = .pointer (some p)) (h3 : tmps.getD 3 undef = .pointer (some q)) (h4 : tmps.getD 4 undef = .pointer (some r))
    (c2 : w.cell? p = some (.slice a n c)) (c3 : w.cell? q = some (.int .i64 x)) (c4 : w.cell? r = some (.int .i64 y)) :
    (results Try.f10 tmps).run Try.prog w = .ok (.tuple #[.slice a n c, .int .i64 x, .int .i64 y]) w := by
  have h2' : tmps[2]?.getD undef = .pointer (some p) := by simpa using h2
  have h3' : tmps[3]?.getD undef = .pointer (some q) := by simpa using h3
  have h4' : tmps[4]?.getD undef = .pointer (some r) := by simpa using h4
  simp [results, h2', h3', h4', asAddr, go_sem, c2, c3, c4]

theorem heap_old {w : World} {o v : Obj} {i : Nat} (h : w.heap[i]? = some v) : (w.alloc o).heap[i]? = some v := ((Keep.ofQ (F := fun _ => False) ((Q.refl w).alloc o)).block i (lt_of_block h) id).trans h
/-- The error's number. -/
def errOf (o : Out Fr) (e : Int) : Prop :=
  match o with
  | .ok _ _ => False
  | .cut => e = 12
  | .bad x => e = x
/-- The way out: the deferred call has set the results. -/
theorem out_caught {w w' : World} {bf ba be br rk rb : Nat} {b x : Sv} {P : Nat} {zs : List Int} {tmps : Array Value} {R : Ending → World → Prop} (o : Out Fr) (ho : o.stop) (V : Vars w' be br bf ba rk P) (h2 : tmps.getD 2 undef = .pointer (some ⟨bf, 0, none⟩)) (h3 : tmps.getD 3 undef = .pointer (some ⟨ba, 0, none⟩)) (h4 : tmps.getD 4 undef = .pointer (some ⟨be, 0, none⟩))
    (hq : Q w w') (b1 : w.heap.size ≤ bf) (b2 : w.heap.size ≤ ba) (b3 : w.heap.size ≤ be)
    (hR : ∀ w'' e, Q w w'' → errOf o e → R (.returned (.tuple #[.slice none 0 0, .int .i64 P, .int .i64 e])) w'') :
    Leaves Try.prog Try.f10 tmps R [{ target := Target.fn (Fn.func 16) #[.pointer (some ⟨be, 0, none⟩), .pointer (some ⟨br, 0, none⟩), .pointer (some ⟨bf, 0, none⟩), .pointer (some ⟨ba, 0, none⟩)], args := #[] }] (.panicking o.ends) w' := by
  have fin : ∀ (ob : Obj) (e : Int), errOf o e → ∃ v, (results Try.f10 tmps).run Try.prog (caught w' ob be bf ba e P) = .ok v (caught w' ob be bf ba e P) ∧ R (.returned v) (caught w' ob be bf ba e P) := by
    intro ob e he
    obtain ⟨⟨xe, ce⟩, cr, ⟨fa, fn, fc, cf⟩, ⟨xa, ca⟩, ze, zf_, za, cp, d1, d2, d3, d4, d5⟩ := V
    have l1 := lt_of_cell ce
    have l3 := lt_of_cell cf
    have l4 := lt_of_cell ca
    have d2' := d2.symm
    have d3' := d3.symm
    have d5' := d5.symm
    refine ⟨_, results42 tmps _ ⟨bf, 0, none⟩ ⟨ba, 0, none⟩ ⟨be, 0, none⟩ none 0 0 P e h2 h3 h4 ?_ ?_ ?_, hR _ e ?_ he⟩
    · simp [caught, go_sem, *]
    · simp [caught, go_sem, *]
    · simp [caught, go_sem, *]
    · have k : Keep (fun i => i = be ∨ i = bf ∨ i = ba) w' (caught w' ob be bf ba e P) := ((((Keep.refl (fun i => i = be ∨ i = bf ∨ i = ba) w').setCell _ _ _ (.inl (.inl rfl))).setCell _ _ _ (.inl (.inr (.inl rfl)))).setCell _ _ _ (.inl (.inr (.inr rfl)))).alloc _
      exact k.below hq hq.size (fun i e => by omega)
  refine leaves_cons (f := 16) (args := #[.pointer (some ⟨be, 0, none⟩), .pointer (some ⟨br, 0, none⟩), .pointer (some ⟨bf, 0, none⟩), .pointer (some ⟨ba, 0, none⟩)]) (by simp) (by simp [go_sem]) ?_
  cases o with
  | ok a q => exact absurd rfl (ho a q)
  | cut =>
    refine (catch_cut be br bf ba rk P w' V).mono ?_
    rintro e u' w'' ⟨rfl, rfl, rfl⟩
    exact fin _ 12 rfl
  | bad y =>
    refine (catch_ref be br bf ba rk P y w' V).mono ?_
    rintro e u' w'' ⟨rfl, rfl, rfl⟩
    exact fin _ y rfl

set_option maxHeartbeats 4000000 in
theorem readAll_any (b : Sv) (zs : List Int) (w : World) (hl : zs.length = b.n) (hz : ∀ y ∈ zs, 0 ≤ y ∧ y < 256) (hs : Seg w b.a zs) (hn : b.n ≤ 16384) (h0 : 0 < b.n) :
    Calls Try.prog 10 #[.slice b.a b.n b.c] w fun e w' => AnsD w (dec zs zs.length 0 []) e w' := by
  have hmf : ∀ (fn : Fn) (first cap : Array Value) (w : World), (Instr.makeFunc fn first cap).run Try.prog w = .ok (.func fn first cap) w := fun _ _ _ _ => rfl
  have HL := hid hl
  have HZ := hid hz
  have HS := hid hs
  have HBB := hid (show ∀ i, blk b.a = some i → i < w.heap.size from by
    intro i hi
    obtain ⟨bb, off, hb, hc⟩ := hs (by intro e; rw [e] at hl; simp at hl; omega)
    rw [hb] at hi; cases hi
    exact lt_of_cell (hc 0 (by omega)))
  clear hl hz hs
  go_enter_defers Try.func10, Try.ntmps10
  go_wp2_with fail
  generalize hw3 : World.alloc (World.alloc (World.alloc w _) _) _ = w3
  have q3 : Q w w3 := by rw [← hw3]; exact (((Q.refl w).alloc _).alloc _).alloc _
  have s3 : w3.heap.size = w.heap.size + 3 := by rw [← hw3]; simp
  have vf : w3.heap[w.heap.size]? = some (.cells #[.slice none 0 0] 24 (0, 0)) := by
    rw [← hw3]; exact heap_old (heap_old (heap_alloc_new w _))
  have va : w3.heap[w.heap.size + 1]? = some (.cells #[.int .i64 0] 3 (0, 0)) := by
    rw [← hw3]; exact heap_old (heap_alloc2_new w _ _)
  have ve : w3.heap[w.heap.size + 2]? = some (.cells #[.int .i64 0] 25 (0, 0)) := by
    rw [← hw3]
    have := heap_alloc_new ((w.alloc (.cells #[.slice none 0 0] 24)).alloc (.cells #[.int .i64 0] 3)) (.cells #[.int .i64 0] 25)
    simpa using this
  clear hw3
  refine (open_any b.a b.n b.c zs w3 HL.out (by omega) (HS.out.q q3)).mono ?_
  rintro e w4 ⟨g, rb, rfl, q4, hrb, hg, hne, hrd, hown⟩
  have hrow := own_block hown
  have hglt := lt_of_block hrow
  have hrlt := hrd.lt
  have START := hid (show ∀ w6, w6 = (w4.alloc (.cells #[.slice b.a b.n b.c, .pointer (some ⟨rb, 0, none⟩), .int .i64 0] 55)).alloc (.cells #[.pointer (some ⟨w4.heap.size, 0, none⟩)] 51) → RaI w w6 (w4.heap.size + 2) w.heap.size (w.heap.size + 1) (w.heap.size + 1 + 1) (w4.heap.size + 1) w4.heap.size rb g b zs 0 0 nilS [] from by
    rintro w6 rfl
    have q6 : Q w4 ((w4.alloc (.cells #[.slice b.a b.n b.c, .pointer (some ⟨rb, 0, none⟩), .int .i64 0] 55)).alloc (.cells #[.pointer (some ⟨w4.heap.size, 0, none⟩)] 51)) := ((Q.refl w4).alloc _).alloc _
    have q36 := q4.trans q6
    have kk := Keep.ofQ (F := fun _ => False) q36
    have hBB := HBB.out
    refine ⟨q3.trans q36, ⟨heap_alloc2_old w4 _ _, hrd.q q6, (Keep.ofQ (F := fun _ => False) q6).block g hglt id |>.trans hrow, (HS.out.q q3).q q36, HL.out, HZ.out, hn, by omega, hne, by omega, fun x e => ?_, fun x e => ?_, by omega, by omega⟩, (kk.block _ (lt_of_block vf) id).trans vf, (kk.block _ (lt_of_block va) id).trans va, (kk.block _ (lt_of_block ve) id).trans ve, heap_alloc2_new w4 _ _, frs_nil _ _, ⟨by omega, by omega, by omega⟩, ?_, ⟨by omega, fun i e => ?_⟩, ?_⟩
    · have := hBB x e; constructor <;> omega
    · have := hBB x e; have := (q3.trans q36).size; omega
    · simp; omega
    · have := hBB i e; omega
    · refine ⟨by omega, by omega, by omega, by omega, by omega, by omega, by omega, by omega, by omega, by omega, by omega, by omega, by omega, by omega, fun i e => ?_⟩
      have := hBB i e; omega)
  have hsz : w.heap.size + 3 ≤ w4.heap.size := by have := q4.size; omega
  clear q3 s3 vf va ve q4 hrb hg hne hrd hown hrow hglt hrlt
  go_wp2
  have S0 := START.out _ rfl
  have hbe3 : w.heap.size ≤ w.heap.size + 1 + 1 := by omega
  have hba3 : w.heap.size ≤ w.heap.size + 1 := by omega
  clear START
  generalize World.alloc (World.alloc w4 _) _ = w6 at *
  generalize w.heap.size + 1 + 1 = be at *
  generalize w.heap.size + 1 = ba at *
  generalize w4.heap.size + 2 = B at *
  generalize w4.heap.size + 1 = br at *
  generalize w4.heap.size = rk at *
  have hB3 := S0.bs
  have S1 := hid S0
  clear S0
  go_loopw [] (fun wr => ∃ (pl : Int) (P : Nat) (x : Sv) (fds : List Fd) (n : Nat), RaI w wr B w.heap.size ba be br rk rb g b zs pl P x fds ∧ dec zs zs.length 0 [] = dec zs n P (fds.map (·.1)) ∧ zs.length ≤ n + P ∧ fds.length ≤ P) (fun wr => ((zs.length : Int) - placeC wr rb).toNat)
  case atStart => exact ⟨0, 0, nilS, [], zs.length, S1.out, rfl, by omega, Nat.le_refl _⟩
  case round =>
    obtain ⟨pl, P, x, fds, n, hI, hD, hn1, hfl⟩ := hrel
    have HI := hid hI
    have HD := hid hD
    have c5 : wr.cell? ⟨br, 0, none⟩ = some (.pointer (some ⟨rk, 0, none⟩)) := by rw [cell_of_row wr br 0 _ 51 (0, 0) hI.vr]; rfl
    have r1 := hI.rg.c1
    have hP1 := hI.rg.p1
    have HPC := hid (placeC_of hI.rg)
    clear hI hD
    go_wp2_with fail
    refine (left_any rb _ b.n b.n P 0 wr (by omega) (by omega) hP1 HI.out.rg.rdr).mono ?_
    rintro e w1 ⟨rfl, k, rfl⟩
    rw [if_pos rfl]
    have HJ := hid (HI.out.drewN k)
    clear HI c5 r1
    generalize World.drewN wr k = w1 at *
    by_cases hP : P < b.n
    · have hd1 : decide ((0 : Int) < (b.n : Int) - (P : Int)) = true := by simp only [decide_eq_true_eq]; omega
      have hd2 : (0 : Int) < (b.n : Int) - (P : Int) := by omega
      obtain ⟨n', rfl⟩ : ∃ n', n = n' + 1 := ⟨n - 1, by have := HL.out; omega⟩
      have HDs := hid (show dec zs zs.length 0 [] = match frameO zs P with | .ok f q => dec zs n' q.toNat (fds.map (·.1) ++ [f]) | .cut => ([], (P : Int), 12) | .bad x => ([], (P : Int), x) from by
        rw [HD.out, dec, if_neg (by rw [HL.out]; omega)]
        cases frameO zs P <;> rfl)
      have v5 : w1.cell? ⟨br, 0, none⟩ = some (.pointer (some ⟨rk, 0, none⟩)) := by rw [cell_of_row w1 br 0 _ 51 (0, 0) HJ.out.vr]; rfl
      have v2 : w1.cell? ⟨w.heap.size, 0, none⟩ = some (.slice x.a x.n x.c) := by rw [cell_of_row w1 _ 0 _ 24 (0, 0) HJ.out.vf]; rfl
      have PAN := hid (show ∀ (u w' : World) (tmps : Array Value), Q w1 u → Keep (fun i => i = rb ∨ i = rk) u w' → (frameO zs P).stop → w'.heap[rk]? = some (.cells #[.slice b.a b.n b.c, .pointer (some ⟨rb, 0, none⟩), .int .i64 P] 55 (0, 0)) → tmps.getD 2 undef = .pointer (some ⟨w.heap.size, 0, none⟩) → tmps.getD 3 undef = .pointer (some ⟨ba, 0, none⟩) → tmps.getD 4 undef = .pointer (some ⟨be, 0, none⟩) →
          Leaves Try.prog Try.f10 tmps (fun e w' => AnsD w (dec zs zs.length 0 []) e w') [{ target := Target.fn (Fn.func 16) #[.pointer (some ⟨be, 0, none⟩), .pointer (some ⟨br, 0, none⟩), .pointer (some ⟨w.heap.size, 0, none⟩), .pointer (some ⟨ba, 0, none⟩)], args := #[] }] (.panicking (frameO zs P).ends) w' from by
        intro u w' tmps hu hk hs hd h2 h3 h4
        obtain ⟨n1, n2, n3, n4, n5, n6, n7, n8, n9, n10, n11, n12, n13, n14, n15⟩ := HJ.out.ne
        have k1 : Keep (fun i => i = rb ∨ i = rk) w1 w' := (Keep.ofQ hu).trans hk
        have bl : ∀ i ob, w1.heap[i]? = some ob → i ≠ rb → i ≠ rk → w'.heap[i]? = some ob := fun i ob h e1 e2 => (k1.block i (lt_of_block h) (by omega)).trans h
        refine out_caught (w := w) (rb := rb) (b := b) (x := x) (zs := zs) (frameO zs P) hs (vars_of (bl _ _ HJ.out.vf n5 n4) (bl _ _ HJ.out.va n9 n8) (bl _ _ HJ.out.ve n12 n11) (bl _ _ HJ.out.vr n14 n13) hd n10 (fun e => n2 e.symm) (fun e => n7 e.symm) n11 n1) h2 h3 h4 (k1.below HJ.out.q HJ.out.q.size (fun i e => by rcases e with rfl | rfl; exact hB3.2.2; exact hB3.2.1)) (Nat.le_refl _) hba3 hbe3 ?_
        intro w'' e hq he
        refine ⟨nilS, [], ?_, hq, frs_nil _ _, ?_⟩
        · rw [HDs.out]
          cases hf : frameO zs P with
          | ok a q => exact absurd hf (hs a q)
          | cut => rw [hf] at he; cases he; rfl
          | bad y => rw [hf] at he; cases he; rfl
        · rw [HDs.out]
          cases hf : frameO zs P with
          | ok a q => exact absurd hf (hs a q)
          | cut => rfl
          | bad y => rfl)
      have NXT := hid (show ∀ (u w2 : World) (f : Fr) (q : Int) (d c s : Sv), Q w1 u → Keep (fun i => i = rb ∨ i = rk) u w2 → frameO zs P = .ok f q → HoldsR u.heap.size w2 f d c s → Rg w2 rk rb g b zs P q →
          ∃ (y : Sv) (w3 : World), (Builtin.append_ #[24, 24] 24 #[.slice x.a x.n x.c, .slice (some ⟨w2.heap.size, 0, none⟩) 1 1]).run Try.prog (w2.alloc (.cells (fcells f d c s) 34)) = .ok (.slice y.a y.n y.c) w3 ∧ w2.cell? ⟨w.heap.size, 0, none⟩ = some (.slice x.a x.n x.c) ∧ w3.cell? ⟨w.heap.size, 0, none⟩ = some (.slice x.a x.n x.c) ∧ w3.frozen? ⟨w.heap.size, 0, none⟩ = false ∧
            RaI w (w3.setCell ⟨w.heap.size, 0, none⟩ (.slice y.a y.n y.c)) B w.heap.size ba be br rk rb g b zs P q.toNat y (fds ++ [(f, d, c, s)]) ∧ P < q.toNat ∧ w.heap.size < w2.heap.size from by
        intro u w2 f q d c s hu hk ho hh hr
        have hpl := frameO_pl HJ.out.rg.pl_ ho
        have hq0 : ((q.toNat : Nat) : Int) = q := by omega
        have I1 : RaI w u B w.heap.size ba be br rk rb g b zs pl P x fds := ⟨HJ.out.q.trans hu, HJ.out.rg.q hu, ((Keep.ofQ (F := fun _ => False) hu).block _ (lt_of_block HJ.out.vf) id).trans HJ.out.vf, ((Keep.ofQ (F := fun _ => False) hu).block _ (lt_of_block HJ.out.va) id).trans HJ.out.va, ((Keep.ofQ (F := fun _ => False) hu).block _ (lt_of_block HJ.out.ve) id).trans HJ.out.ve, ((Keep.ofQ (F := fun _ => False) hu).block _ (lt_of_block HJ.out.vr) id).trans HJ.out.vr, HJ.out.fr.q hu, HJ.out.bs, by have := HJ.out.lo; have := hu.size; omega, HJ.out.lg, HJ.out.ne⟩
        have I2 := I1.next hk (P' := q.toNat) (pl' := P) (by rw [hq0]; exact hr)
        have hlo := I1.lo
        have hB : B ≤ u.heap.size := hlo.2.2.2.2.2.2
        have hold : HoldsR B w2 f d c s := ⟨hh.dr, hh.cr, hh.sr, hh.nd.mono hB, hh.nc.mono hB, hh.ns.mono hB⟩
        have hxl := I2.fr.len
        obtain ⟨y, w3, hrun, hfr, hk3⟩ := frs_push (f := f) (d := d) (c := c) (s := s) I2.fr hold (fun i e => by
          have hlt := I1.fr.sub.lt i e
          exact ⟨fun e2 => by have := hh.nd i e2; omega, fun e2 => by have := hh.nc i e2; omega, fun e2 => by have := hh.ns i e2; omega⟩) I2.lo.2.2.2.2.2.2 (by omega)
        have I3 := I2.push hk3 hfr
        have hxne : ¬ blk x.a = some w.heap.size := fun e => by have := I2.fr.new _ e; omega
        have vf3 := (hk3.block _ (lt_of_block I2.vf) hxne).trans I2.vf
        refine ⟨y, w3, hrun, by rw [cell_of_row w2 _ 0 _ 24 (0, 0) I2.vf]; rfl, by rw [cell_of_row w3 _ 0 _ 24 (0, 0) vf3]; rfl, frozen_of_row w3 _ 0 _ 24 vf3, I3, by omega, lt_of_block I2.vf⟩)
      have hB0 := HJ.out.lo
      clear HD
      go_wp2
      go_region_law (first
        | (refine step_call54 rfl _ _ rfl (by simp [Act.eval]) (frame_at rk rb g b zs pl P _ (HJ.out.rg.q (by repeat (first | exact Q.refl _ | apply Q.drewN | apply Q.drew)))) ?_; rintro e w2 ⟨hk, ⟨f, q, v, ho, rfl, ⟨d, c, s, rfl, hh⟩, hr⟩ | ⟨hs, rfl, hd⟩⟩; rotate_left; (refine .inr ⟨_, rfl, ?_⟩; exact PAN.out _ w2 _ (by repeat (first | exact Q.refl _ | apply Q.drewN | apply Q.drew)) hk hs hd rfl rfl rfl); (refine .inl ⟨_, rfl, ?_⟩); (obtain ⟨y, w3, hrun, y2, y3, y4, hN, hPq, hw2⟩ := NXT.out _ w2 f q d c s (by repeat (first | exact Q.refl _ | apply Q.drewN | apply Q.drew)) hk ho hh hr); have HN := hid hN; have HO := hid ho; clear hN hk ho hh hr)
        | (refine step_append rfl _ _ _ _ rfl (by simp [Act.eval]) (by simp [Act.eval]) hrun ?_))
      all_goals
        have HMS := hid (show placeC (w3.setCell ⟨w.heap.size, 0, none⟩ (.slice y.a y.n y.c)) rb = (q.toNat : Int) from placeC_of HN.out.rg)
        have HPQ := hid hPq
        have HQL := hid (show (q.toNat : Int) ≤ b.n from HN.out.rg.p1)
        clear hrun y2 y3 y4
        go_wp2
        go_roundw
        case rel => exact ⟨P, q.toNat, y, fds ++ [(f, d, c, s)], n', HN.out, by rw [HDs.out, HO.out]; simp, by have := HPQ.out; omega, by have := HPQ.out; simp; omega⟩
        case measure =>
          have h1 := HMS.out
          have h2 := HPC.out
          have h3 := HPQ.out
          have h4 := HL.out
          have h5 := HQL.out
          first
            | (rw [h1, h2]; omega)
            | (simp only [h1, h2]; omega)
            | (simp [h1, h2]; omega)
    · have hd1 : decide ((0 : Int) < (b.n : Int) - (P : Int)) = false := by simp only [decide_eq_false_iff_not]; omega
      have hd2 : ¬ (0 : Int) < (b.n : Int) - (P : Int) := by omega
      have HDs := hid (show dec zs zs.length 0 [] = (fds.map (·.1), 0, 0) from by
        rw [HD.out]
        cases n with
        | zero => rfl
        | succ n => rw [dec, if_pos (by rw [HL.out]; omega)])
      obtain ⟨n1, n2, n3, n4, n5, n6, n7, n8, n9, n10, n11, n12, n13, n14, n15⟩ := HJ.out.ne
      have v2 : w1.cell? ⟨w.heap.size, 0, none⟩ = some (.slice x.a x.n x.c) := by rw [cell_of_row w1 _ 0 _ 24 (0, 0) HJ.out.vf]; rfl
      have v3 : w1.cell? ⟨ba, 0, none⟩ = some (.int .i64 0) := by rw [cell_of_row w1 _ 0 _ 3 (0, 0) HJ.out.va]; rfl
      have v4 : w1.cell? ⟨be, 0, none⟩ = some (.int .i64 0) := by rw [cell_of_row w1 _ 0 _ 25 (0, 0) HJ.out.ve]; rfl
      have f2 := frozen_of_row w1 _ 0 _ 24 HJ.out.vf
      have f3 := frozen_of_row w1 _ 0 _ 3 HJ.out.va
      have f4 := frozen_of_row w1 _ 0 _ 25 HJ.out.ve
      have m1 := n1.symm
      have m2 := n2.symm
      have m7 := n7.symm
      clear n3 n4 n5 n6 n8 n9 n10 n11 n12 n13 n14 n15 HD
      go_wp2
      have kk : Keep (fun i => i = w.heap.size ∨ i = ba ∨ i = be) w1 (((w1.setCell ⟨w.heap.size, 0, none⟩ (.slice x.a x.n x.c)).setCell ⟨ba, 0, none⟩ (.int .i64 0)).setCell ⟨be, 0, none⟩ (.int .i64 0)) :=
        (((Keep.refl (fun i => i = w.heap.size ∨ i = ba ∨ i = be) w1).setCell _ _ _ (.inl (.inl rfl))).setCell _ _ _ (.inl (.inr (.inl rfl)))).setCell _ _ _ (.inl (.inr (.inr rfl)))
      refine leaves_cons (f := 16) (args := #[.pointer (some ⟨be, 0, none⟩), .pointer (some ⟨br, 0, none⟩), .pointer (some ⟨w.heap.size, 0, none⟩), .pointer (some ⟨ba, 0, none⟩)]) (by simp) (by simp [go_sem]) ?_
      refine (catch_idle ⟨be, 0, none⟩ ⟨br, 0, none⟩ ⟨w.heap.size, 0, none⟩ ⟨ba, 0, none⟩ _).mono ?_
      rintro e u' w'' ⟨rfl, rfl, rfl⟩
      refine ⟨_, results42 _ _ ⟨w.heap.size, 0, none⟩ ⟨ba, 0, none⟩ ⟨be, 0, none⟩ x.a x.n x.c 0 0 rfl rfl rfl ?_ ?_ ?_, x, fds, ?_, ?_, ?_, ?_⟩
      · simp [go_sem, *]
      · simp [go_sem, *]
      · simp [go_sem, *]
      · rw [HDs.out]
      · exact kk.below HJ.out.q HJ.out.q.size (fun i e => by omega)
      · have hlo := HJ.out.lo
        exact (HJ.out.fr.keep kk (fun i e => .inl (by omega))).mono (by omega)
      · rw [HDs.out]

set_option maxHeartbeats 1000000 in
theorem decode_any (b : Sv) (zs : List Int) (w : World) (hl : zs.length = b.n) (hz : ∀ y ∈ zs, 0 ≤ y ∧ y < 256) (hs : Seg w b.a zs) (hn : b.n ≤ 140737488355328) :
    Calls Try.prog 5 #[.slice b.a b.n b.c] w fun e w' => AnsD w (decA zs) e w' := by
  by_cases h1 : 16384 < b.n
  · have HD := hid (show decA zs = ([], 0, 52) from by unfold decA; rw [if_pos (by omega)])
    have hi : (16384 : Int) < (b.n : Int) := by omega
    clear hl hz hs
    go_enter Try.func5, Try.ntmps5
    go_wp2
    go_ret3
    exact ⟨nilS, [], by rw [HD.out]; rfl, Q.refl _, frs_nil _ _, by rw [HD.out]; rfl⟩
  by_cases h0 : b.n = 0
  · have HD := hid (show decA zs = ([], 0, 12) from by unfold decA; rw [if_neg (by omega), if_pos (by omega)])
    have hi : ¬ (16384 : Int) < (b.n : Int) := by omega
    have hb : ((b.n : Int) == 0) = true := by simp [h0]
    clear hl hz hs
    go_enter Try.func5, Try.ntmps5
    go_wp2
    go_ret3
    exact ⟨nilS, [], by rw [HD.out]; rfl, Q.refl _, frs_nil _ _, by rw [HD.out]; rfl⟩
  · have HD := hid (show decA zs = dec zs zs.length 0 [] from by unfold decA; rw [if_neg (by omega), if_neg (by omega)])
    have hi : ¬ (16384 : Int) < (b.n : Int) := by omega
    have hb : ((b.n : Int) == 0) = false := by simp; omega
    have HR := hid (readAll_any b zs w hl hz hs (by omega) (by omega))
    clear hl hz hs
    go_enter Try.func5, Try.ntmps5
    go_wp2_with fail
    refine HR.out.mono ?_
    rintro e w1 ⟨x, fds, rfl, hq, hf, hm⟩
    have HX := hid (show ∃ (x' : Sv) (fds : List Fd), Ending.returned (.tuple #[.slice x.a x.n x.c, .int .i64 (dec zs zs.length 0 []).2.1, .int .i64 (dec zs zs.length 0 []).2.2]) = .returned (.tuple #[.slice x'.a x'.n x'.c, .int .i64 (dec zs zs.length 0 []).2.1, .int .i64 (dec zs zs.length 0 []).2.2]) ∧ Q w w1 ∧ Frs w.heap.size w1 x' fds ∧ fds.map (·.1) = (dec zs zs.length 0 []).1 from ⟨x, fds, rfl, hq, hf, hm⟩)
    clear hq hf hm
    go_wp2
    go_ret3
    rw [HD.out]
    exact HX.out
end Go.Proofs.Ytdoodbaogmdloab
