/-
  What shake's conclude does: a contract that the statements' walks use.
-/
import Derived.Test.YtekpepnonhbkcaaMgA
import Derived.Test.YtekpepnonhbkcaaShI
import Derived.Test.YtekpepnonhbkcaaShL
import Derived.Deep.MidRow
import Derived.Test.YtekpepnonhbkcaaHnd

/-
  A side of a handshake whole, in memory and as plain mathematics: what is its own and written, and what is only read. Nothing is proved of a statement here.
-/
namespace Go.Proofs.Ytekpepnonhbkcaa
open Go.RowKit
set_option linter.unusedVariables false
set_option maxRecDepth 20000

/-- A side, as plain mathematics. -/
structure Ab where
  sv : Bool
  rs : List Int
  pv : Int
  ss : List ByteArray
  ps : List Int
  wt : List (Int × Int × Nat)
  kp : List Int
  fd : Bool
  sd : List Int
  rt : List Int
  hc : List Int
  hs : List Int
  ac : List Int
  as_ : List Int
  pr : ByteArray
  pe : List Int
  out : List (Int × List Int)

/-- Bytes that are only read: they lie apart from what is written. -/
structure RO (w : World) (M : Nat → Prop) (r : Sv) (zs : List Int) : Prop where
  s : Seg w r.a zs
  l : zs.length = r.n
  b : ∀ b, blk r.a = some b → ¬ M b ∧ b < w.heap.size
structure ROT (w : World) (M : Nat → Prop) (r : Sv) (ss : List ByteArray) : Prop where
  s : SegT w r.a ss
  l : ss.length = r.n
  b : ∀ b, blk r.a = some b → ¬ M b ∧ b < w.heap.size
theorem SegT.keep {F : Nat → Prop} {w w' : World} {a : Option Addr} {ss : List ByteArray} (h : SegT w a ss) (k : Keep F w w') (hF : ∀ b, blk a = some b → ¬ F b) : SegT w' a ss := by
  intro hne
  obtain ⟨b, off, rfl, hc⟩ := h hne
  exact ⟨b, off, rfl, fun i hi => k.cell (hc i hi) (hF b rfl)⟩
theorem RO.keep {F M M' : Nat → Prop} {w w' : World} {r : Sv} {zs : List Int} (h : RO w M r zs) (k : Keep F w w') (hF : ∀ b, F b → M b) (hM : ∀ b, M' b → M b ∨ w.heap.size ≤ b) : RO w' M' r zs :=
  ⟨h.s.keep k (fun b e f => (h.b b e).1 (hF b f)), h.l, fun b e => ⟨fun m => by rcases hM b m with m | m; exact (h.b b e).1 m; have := (h.b b e).2; omega, Nat.lt_of_lt_of_le (h.b b e).2 k.size⟩⟩
theorem ROT.keep {F M M' : Nat → Prop} {w w' : World} {r : Sv} {ss : List ByteArray} (h : ROT w M r ss) (k : Keep F w w') (hF : ∀ b, F b → M b) (hM : ∀ b, M' b → M b ∨ w.heap.size ≤ b) : ROT w' M' r ss :=
  ⟨h.s.keep k (fun b e f => (h.b b e).1 (hF b f)), h.l, fun b e => ⟨fun m => by rcases hM b m with m | m; exact (h.b b e).1 m; have := (h.b b e).2; omega, Nat.lt_of_lt_of_le (h.b b e).2 k.size⟩⟩
/-- The waits that are left. -/
structure Wt (w : World) (M : Nat → Prop) (v : Sv) (sv : Bool) (wt : List (Int × Int × Nat)) : Prop where
  n : wt.length = v.n
  c : v.n ≤ v.c
  r : ∃ wb j, wt = (waitsL sv).drop j ∧ w.heap[wb]? = some (.cells (waitsC (waitsL sv)).toArray 72 (0, 0)) ∧ ¬ M wb ∧ (wt ≠ [] → v.a = some ⟨wb, 3 * j, none⟩)
theorem lt_of_blk {w : World} {b : Nat} {o : Obj} (h : w.heap[b]? = some o) : b < w.heap.size := by
  rcases Nat.lt_or_ge b w.heap.size with hh | hh
  · exact hh
  · have : w.heap[b]? = none := by simp; omega
    rw [this] at h; cases h
theorem Wt.keep {F M M' : Nat → Prop} {w w' : World} {v : Sv} {sv : Bool} {wt : List (Int × Int × Nat)} (h : Wt w M v sv wt) (k : Keep F w w') (hF : ∀ b, F b → M b) (hM : ∀ b, M' b → M b ∨ w.heap.size ≤ b) : Wt w' M' v sv wt := by
  obtain ⟨wb, j, e, hb, hm, ha⟩ := h.r
  refine ⟨h.n, h.c, wb, j, e, (k.block wb (lt_of_blk hb) (fun f => hm (hF _ f))).trans hb, fun m => ?_, ha⟩
  rcases hM _ m with m | m
  · exact hm m
  · have := lt_of_blk hb; omega
/-- What is only read of a side. -/
structure Rest (w : World) (M : Nat → Prop) (S : Sh) (A : Ab) : Prop where
  own : ∃ t p, S.own = ccells A.sv A.rs A.pv t p ∧ A.rs.length = 32 ∧ ROT w M t A.ss ∧ RO w M p A.ps
  wt : Wt w M S.waits A.sv A.wt
  fd : S.failed = A.fd
  rt : S.root = u8s A.rt
  hc : RO w M S.handC A.hc
  hs : RO w M S.handS A.hs
  ac : RO w M S.appC A.ac
  as_ : RO w M S.appS A.as_
  pr : S.proto = A.pr
  pe : RO w M S.peer A.pe
theorem Rest.keep {F M M' : Nat → Prop} {w w' : World} {S : Sh} {A : Ab} (h : Rest w M S A) (k : Keep F w w') (hF : ∀ b, F b → M b) (hM : ∀ b, M' b → M b ∨ w.heap.size ≤ b) : Rest w' M' S A := by
  obtain ⟨t, p, e, l, ht, hp⟩ := h.own
  exact ⟨⟨t, p, e, l, ht.keep k hF hM, hp.keep k hF hM⟩, h.wt.keep k hF hM, h.fd, h.rt, h.hc.keep k hF hM, h.hs.keep k hF hM, h.ac.keep k hF hM, h.as_.keep k hF hM, h.pr, h.pe.keep k hF hM⟩
/-- What may be written. -/
def Mut (sb : Nat) (S : Sh) (Fs : List Fl) (b : Nat) : Prop := Mine sb S Fs b ∨ blk S.kept.a = some b
/-- A side whole. -/
structure Fu (w : World) (B sb : Nat) (S : Sh) (Fs : List Fl) (A : Ab) : Prop where
  sd : Sd w B sb S A.sd Fs
  fl : Fs.map con = A.out
  kr : Row w S.kept A.kp
  kb : ∀ b, blk S.kept.a = some b → B ≤ b ∧ ¬ Mine sb S Fs b
  re : Rest w (Mut sb S Fs) S A
theorem Row.lt {w : World} {x : Sv} {zs : List Int} (h : Row w x zs) : ∀ b, blk x.a = some b → b < w.heap.size := by
  intro b e
  rcases h.2 with ⟨h1, _, _⟩ | ⟨g, off, cur, ha, hg, _⟩
  · rw [h1] at e; cases e
  · rw [ha] at e; cases e; exact lt_of_blk hg
theorem Fu.mut {w : World} {B sb : Nat} {S : Sh} {Fs : List Fl} {A : Ab} (h : Fu w B sb S Fs A) {b : Nat} (m : Mut sb S Fs b) : B ≤ b ∧ b < w.heap.size := by
  rcases m with m | m
  · exact h.sd.mine m
  · exact ⟨(h.kb b m).1, h.kr.lt b m⟩
/-- Nobody touches it. -/
theorem Fu.keep {F : Nat → Prop} {w w' : World} {B sb : Nat} {S : Sh} {Fs : List Fl} {A : Ab} (h : Fu w B sb S Fs A) (k : Keep F w w') (hF : ∀ b, b < w.heap.size → ¬ F b) : Fu w' B sb S Fs A := by
  have q : Q w w' := k.toQ hF
  have k' : Keep (fun _ => False) w w' := Keep.ofQ q
  exact ⟨h.sd.q q, h.fl, Sub.q h.kr q, h.kb, h.re.keep k' (fun b f => f.elim) (fun b m => .inl m)⟩
theorem Fu.q {w w' : World} {B sb : Nat} {S : Sh} {Fs : List Fl} {A : Ab} (h : Fu w B sb S Fs A) (q : Q w w') : Fu w' B sb S Fs A := h.keep (Keep.ofQ (F := fun _ => False) q) (fun _ _ f => f)
/-- What was said and what goes out have turned. -/
theorem Fu.move {w w' : World} {B sb : Nat} {S : Sh} {Fs Gs : List Fl} {A : Ab} {x o : Sv} {sd : List Int} (h : Fu w B sb S Fs A) (hs : Sd w' B sb { S with said := x, out := o } sd Gs) (k : Keep (Mine sb S Fs) w w')
    (mi : ∀ b, Mine sb { S with said := x, out := o } Gs b → Mine sb S Fs b ∨ w.heap.size ≤ b) : Fu w' B sb { S with said := x, out := o } Gs { A with sd := sd, out := Gs.map con } := by
  have hM : ∀ b, Mut sb { S with said := x, out := o } Gs b → Mut sb S Fs b ∨ w.heap.size ≤ b := by
    intro b m
    rcases m with m | m
    · rcases mi b m with m | m
      · exact .inl (.inl m)
      · exact .inr m
    · exact .inl (.inr m)
  obtain ⟨r1, r2, r3, r4, r5, r6, r7, r8, r9, r10⟩ := h.re.keep k (fun b m => .inl m) hM
  refine ⟨hs, rfl, Sub.keep h.kr k (fun b e => (h.kb b e).2), fun b e => ⟨(h.kb b e).1, fun m => ?_⟩, r1, r2, r3, r4, r5, r6, r7, r8, r9, r10⟩
  rcases mi b m with m | m
  · exact (h.kb b e).2 m
  · have := h.kr.lt b e; omega
theorem Sd.cells {w w' : World} {B sb : Nat} {S S' : Sh} {sd : List Int} {Fs : List Fl} (h : Sd w B sb S sd Fs) (ha : ShAt w' sb S') (k : Keep (fun b => b = sb) w w') (e1 : S'.said = S.said) (e2 : S'.out = S.out) : Sd w' B sb S' sd Fs := by
  refine ⟨ha, h.hB, ?_, ?_, ?_, ?_, ?_, ?_, h.pd⟩
  · rw [e1]; exact Sub.keep h.sr k (fun b e => (h.bs b e).2)
  · rw [e2]; exact Sub.keep h.fr k (fun b e => (h.bo b e).2.1)
  · exact fun F hF => Sub.keep (h.dr F hF) k (fun b e => (h.bd F hF b e).2.1)
  · rw [e1]; exact h.bs
  · rw [e1, e2]; exact h.bo
  · rw [e1, e2]; exact h.bd
theorem mine_eq {sb : Nat} {S S' : Sh} {Fs : List Fl} (e1 : S'.said = S.said) (e2 : S'.out = S.out) (b : Nat) : Mine sb S' Fs b ↔ Mine sb S Fs b := by unfold Mine; rw [e1, e2]
/-- Cells of the side itself have turned; what is new is only read. -/
theorem Fu.cells {w w' : World} {B sb : Nat} {S S' : Sh} {Fs : List Fl} {A A' : Ab} (h : Fu w B sb S Fs A) (ha : ShAt w' sb S') (k : Keep (fun b => b = sb) w w') (e1 : S'.said = S.said) (e2 : S'.out = S.out) (e3 : S'.kept = S.kept)
    (a1 : A'.sd = A.sd) (a2 : A'.out = A.out) (a3 : A'.kp = A.kp) (hr : Rest w' (Mut sb S' Fs) S' A') : Fu w' B sb S' Fs A' := by
  refine ⟨by rw [a1]; exact h.sd.cells ha k e1 e2, by rw [a2]; exact h.fl, by rw [a3, e3]; exact Sub.keep h.kr k (fun b e f => (h.kb b e).2 (.inl f)), fun b e => ?_, hr⟩
  rw [e3] at e
  exact ⟨(h.kb b e).1, fun m => (h.kb b e).2 ((mine_eq e1 e2 b).1 m)⟩
theorem mut_eq {sb : Nat} {S S' : Sh} {Fs : List Fl} (e1 : S'.said = S.said) (e2 : S'.out = S.out) (e3 : S'.kept = S.kept) (b : Nat) : Mut sb S' Fs b ↔ Mut sb S Fs b := by unfold Mut; rw [mine_eq e1 e2, e3]
theorem mut_sb {sb : Nat} {S : Sh} {Fs : List Fl} : ∀ b, b = sb → Mut sb S Fs b := fun b e => .inl (.inl e)
/-- A row that was made since is only read. -/
theorem RO.new {w w0 : World} {M : Nat → Prop} {r : Sv} {zs : List Int} (h : Row w r zs) (hn : New w0.heap.size r) (hM : ∀ b, M b → b < w0.heap.size) : RO w M r zs :=
  ⟨h.seg, h.len, fun b e => ⟨fun m => by have := hM b m; have := hn b e; omega, h.lt b e⟩⟩
end Go.Proofs.Ytekpepnonhbkcaa

/-
  Contracts of the messages' and secrets' makers once more: what is told is new memory besides.
-/
namespace Go.Proofs.Ytekpepnonhbkcaa
open Go.RowKit
set_option linter.unusedVariables false
set_option maxRecDepth 20000

theorem concat2n (W : World) (x y : Sv) (X Y : List Int) (hx : Seg W x.a X ∧ X.length = x.n) (hy : Seg W y.a Y ∧ Y.length = y.n) (hb : X.length + Y.length ≤ 1000000) :
    Calls Try.prog 55 #[.slice (some ⟨W.heap.size, 0, none⟩) 2 2] (W.alloc (.cells #[.slice x.a x.n x.c, .slice y.a y.n y.c] 24)) fun e w' => ∃ t : Sv, e = .returned (.slice t.a t.n t.c) ∧ Q W w' ∧ Row w' t (X ++ Y) ∧ New W.heap.size t := by
  have e2 : cat (fun j => if j = 0 then X else Y) 2 = X ++ Y := by simp [cat]
  have qa : Q W (W.alloc (.cells #[.slice x.a x.n x.c, .slice y.a y.n y.c] 24)) := (Q.refl W).alloc _
  refine (concat_any W.heap.size 2 2 (fun j => if j = 0 then x else y) (fun j => if j = 0 then X else Y) _ (fun j hj => ?_) (fun j hj => ?_) (by omega) (by rw [e2]; simp only [List.length_append]; omega)).mono ?_
  · rw [cell_of_row _ W.heap.size j _ 24 (0, 0) (heap_alloc_new W _)]
    rcases (show j = 0 ∨ j = 1 by omega) with rfl | rfl <;> rfl
  · rcases (show j = 0 ∨ j = 1 by omega) with rfl | rfl
    · exact ⟨hx.1.q qa, hx.2⟩
    · exact ⟨hy.1.q qa, hy.2⟩
  · rintro e w' ⟨t, rfl, q, r, nw⟩
    rw [e2] at r
    exact ⟨t, rfl, qa.trans q, r, nw.mono qa.size⟩

set_option maxHeartbeats 4000000 in
theorem build_new (kind : Int) (pb m c : Nat) (P : Nat → Sv) (Z : Nat → List Int) (w : World) (hp : ∀ j, j < m → w.cell? ⟨pb, j, none⟩ = some (.slice (P j).a (P j).n (P j).c)) (hz : ∀ j, j < m → Seg w (P j).a (Z j) ∧ (Z j).length = (P j).n) (hm : m ≤ 100) (ht : (cat Z m).length ≤ 800000) :
    Calls Try.prog 36 #[.int .u8 kind, .slice (some ⟨pb, 0, none⟩) m c] w fun e w' => ∃ t : Sv, e = .returned (.slice t.a t.n t.c) ∧ Q w w' ∧ Row w' t (msgL kind (cat Z m)) ∧ New w.heap.size t := by
  have HC := hid (fun (W : World) (q : Q w W) => concat_any pb m c P Z W (fun j hj => by rw [q.cell (lt_of_cell (hp j hj))]; exact hp j hj) (fun j hj => ⟨(hz j hj).1.q q, (hz j hj).2⟩) hm (by omega))
  have HT := hid ht
  clear hp hz ht
  generalize hcz : cat Z m = zs at *
  clear hcz
  go_enter Try.func36, Try.ntmps36
  go_wp2_with (first
    | (go_at_call 55; first
        | (refine (HC.out _ ((Q.refl w).alloc _)).mono ?_; rintro e w1 ⟨x, rfl, q1, r1, -⟩; have Q1 := hid q1; have R1 := hid r1; have K1 := hid (show Seg w1 (some ⟨w.heap.size, 0, none⟩) [kind] from (seg_lit1 w kind).q q1); clear q1 r1 HC)
        | (refine (concat2n w2 ⟨some ⟨w.heap.size, 0, none⟩, 1, 1⟩ t [kind] _ ⟨K2.out, rfl⟩ ⟨R2.out.seg, Row.len R2.out⟩ (by rw [List.length_append, be_length]; have := HT.out; simp; omega)).mono ?_; rintro e w3 ⟨y, rfl, q3, r3, n3⟩; have N3 := hid (n3.mono ((((Q.refl w).alloc _).trans (Q1.out.trans Q2.out)).size)); have Q3 := hid (((Q.refl w).alloc _).trans ((Q1.out.trans Q2.out).trans q3)); have R3 := hid r3; clear q3 r3))
    | (go_at_call 35; refine (sized_any' x zs 3 w1 ⟨R1.out.seg, Row.len R1.out⟩ (by omega) (by omega) (by rw [← Row.len R1.out]; have := HT.out; omega)).mono ?_; rintro e w2 ⟨t, rfl, q2, r2⟩; have Q2 := hid q2; have R2 := hid r2; have K2 := hid (K1.out.q q2); clear q2 r2))
  go_ret
  refine ⟨y, rfl, Q3.out, ?_, N3.out⟩
  unfold msgL
  have h5 := R3.out
  rw [← Row.len R1.out] at h5
  exact h5

theorem build1n (kind : Int) (W : World) (x : Sv) (X : List Int) (hx : Seg W x.a X ∧ X.length = x.n) (hb : X.length ≤ 800000) :
    Calls Try.prog 36 #[.int .u8 kind, .slice (some ⟨W.heap.size, 0, none⟩) 1 1] (W.alloc (.cells #[.slice x.a x.n x.c] 24)) fun e w' => ∃ t : Sv, e = .returned (.slice t.a t.n t.c) ∧ Q W w' ∧ Row w' t (msgL kind X) ∧ New W.heap.size t := by
  have e1 : cat (fun _ => X) 1 = X := by simp [cat]
  have qa : Q W (W.alloc (.cells #[.slice x.a x.n x.c] 24)) := (Q.refl W).alloc _
  refine (build_new kind W.heap.size 1 1 (fun _ => x) (fun _ => X) _ (fun j hj => ?_) (fun j hj => ⟨hx.1.q qa, hx.2⟩) (by omega) (by rw [e1]; omega)).mono ?_
  · obtain rfl : j = 0 := by omega
    exact cell_lit W _ 24 0
  · rintro e w' ⟨t, rfl, q, r, nw⟩
    rw [e1] at r
    exact ⟨t, rfl, qa.trans q, r, nw.mono qa.size⟩

theorem build2n (kind : Int) (W : World) (x y : Sv) (X Y : List Int) (hx : Seg W x.a X ∧ X.length = x.n) (hy : Seg W y.a Y ∧ Y.length = y.n) (hb : X.length + Y.length ≤ 800000) :
    Calls Try.prog 36 #[.int .u8 kind, .slice (some ⟨W.heap.size, 0, none⟩) 2 2] (W.alloc (.cells #[.slice x.a x.n x.c, .slice y.a y.n y.c] 24)) fun e w' => ∃ t : Sv, e = .returned (.slice t.a t.n t.c) ∧ Q W w' ∧ Row w' t (msgL kind (X ++ Y)) ∧ New W.heap.size t := by
  have e2 : cat (fun j => if j = 0 then X else Y) 2 = X ++ Y := by simp [cat]
  have qa : Q W (W.alloc (.cells #[.slice x.a x.n x.c, .slice y.a y.n y.c] 24)) := (Q.refl W).alloc _
  refine (build_new kind W.heap.size 2 2 (fun j => if j = 0 then x else y) (fun j => if j = 0 then X else Y) _ (fun j hj => ?_) (fun j hj => ?_) (by omega) (by rw [e2, List.length_append]; omega)).mono ?_
  · rcases (show j = 0 ∨ j = 1 by omega) with rfl | rfl
    · exact cell_lit W _ 24 0
    · exact cell_lit W _ 24 1
  · rcases (show j = 0 ∨ j = 1 by omega) with rfl | rfl
    · exact ⟨hx.1.q qa, hx.2⟩
    · exact ⟨hy.1.q qa, hy.2⟩
  · rintro e w' ⟨t, rfl, q, r, nw⟩
    rw [e2] at r
    exact ⟨t, rfl, qa.trans q, r, nw.mono qa.size⟩

set_option maxHeartbeats 4000000 in
theorem finished_new (k : Sv) (zs : List Int) (w : World) (hs : Seg w k.a zs) (hl : zs.length = k.n) (hn : k.n ≤ 800000) :
    Calls Try.prog 49 #[.slice k.a k.n k.c] w fun e w' => ∃ x : Sv, e = .returned (.slice x.a x.n x.c) ∧ Q w w' ∧ Row w' x (msgL 20 zs) ∧ New w.heap.size x := by
  have BU := hid (build1n 20 w k zs ⟨hs, hl⟩ (by omega))
  clear hs hl hn
  obtain ⟨ka, kn, kc⟩ := k
  dsimp only at *
  go_enter Try.func49, Try.ntmps49
  go_wp2_with fail
  refine BU.out.mono ?_
  rintro e w1 ⟨⟨xa, xn, xc⟩, rfl, hq⟩
  have HQ := hid hq
  clear hq
  dsimp only
  go_wp2
  go_ret
  exact ⟨⟨xa, xn, xc⟩, rfl, HQ.out⟩

set_option maxHeartbeats 4000000 in
theorem serverHello_new (sv : Bool) (rs : List Int) (pv : Int) (t p : Sv) (w : World) (hl : rs.length = 32) (hpv : pv ≤ 9223372036854775807) :
    Calls Try.prog 46 #[.agg (ccells sv rs pv t p).toArray] w fun e w' => ∃ x : Sv, e = .returned (.slice x.a x.n x.c) ∧ Q w w' ∧ Row w' x (msgL 2 (grL rs pv)) ∧ New w.heap.size x := by
  have GR := hid (fun u => greeting_any sv rs pv t p u hl hpv)
  have HIN := hid (ccells_info (sv := sv) (pv := pv) (t := t) (p := p) hl)
  have HGL := hid (show (grL rs pv).length = 40 by unfold grL; rw [List.length_append, be_length, hl])
  clear hl hpv
  generalize (ccells sv rs pv t p).toArray = X at *
  generalize grL rs pv = gl at *
  go_enter Try.func46, Try.ntmps46
  go_upto_region 1 with fail
  generalize hw1 : World.alloc w _ = v1
  have Q1 := hid (show Q w v1 by rw [← hw1]; exact (Q.refl w).alloc _)
  have HB := hid (show v1.heap[w.heap.size]? = some (.cells X 26 (0, 0)) by rw [← hw1]; exact heap_alloc_new w _)
  clear hw1
  generalize hcb : w.heap.size = cb at *
  have HCB := hid hcb
  clear hcb
  go_wp2_with (refine wpList_load_row rfl 26 _ rfl cb rfl 26 X (0, 0) _ HB.out Try.underlying26 rfl HIN.out ?_)
  refine (GR.out v1).mono ?_
  rintro e w2 ⟨⟨ga, gn, gc⟩, rfl, q2, r2⟩
  have BU := hid (build1n 2 w2 ⟨ga, gn, gc⟩ gl ⟨r2.seg, Row.len r2⟩ (by rw [HGL.out]; omega))
  have Q2 := hid (Q1.out.trans q2)
  clear q2 r2
  dsimp only at *
  go_wp2_with fail
  refine BU.out.mono ?_
  rintro e w3 ⟨⟨xa, xn, xc⟩, rfl, q3, r3, n3⟩
  have HQ := hid (show Q w w3 ∧ Row w3 ⟨xa, xn, xc⟩ (msgL 2 gl) ∧ New cb ⟨xa, xn, xc⟩ from ⟨Q2.out.trans q3, r3, n3.mono (by have := Q2.out.size; have := HCB.out; omega)⟩)
  clear q3 r3 n3
  dsimp only
  go_wp2
  go_ret
  exact ⟨⟨xa, xn, xc⟩, rfl, HQ.out.1, HQ.out.2.1, by first | exact HQ.out.2.2 | (rw [HCB.out]; exact HQ.out.2.2)⟩

set_option maxHeartbeats 4000000 in
theorem choice_new (s : ByteArray) (p : Sv) (ps : List Int) (w : World) (hp : Seg w p.a ps) (hpl : ps.length = p.n) (hpn : p.n ≤ 1024) (hs : s.size ≤ 32) :
    Calls Try.prog 48 #[.string s, .slice p.a p.n p.c] w fun e w' => ∃ x : Sv, e = .returned (.slice x.a x.n x.c) ∧ Q w w' ∧ Row w' x (msgL 8 ((be 1 (s.size : Int) ++ sb s) ++ (be 2 (ps.length : Int) ++ ps))) ∧ New w.heap.size x := by
  obtain ⟨pa, pn, pc⟩ := p
  dsimp only at *
  have HP := hid hp
  have LP := hid hpl
  have HPN := hid hpn
  have HSS := hid hs
  clear hp hpl hpn hs
  obtain ⟨cc, w1, hcv, q1, i1⟩ := conv_any s w
  have Q1 := hid q1
  have S1 := hid (sized_any' ⟨some ⟨w.heap.size, 0, none⟩, s.size, cc⟩ (sb s) 1 w1 ⟨i1.s, sb_len s⟩ (by omega) (by omega) (by have := HSS.out; show s.size ≤ _; omega))
  clear q1 i1
  dsimp only at S1
  go_enter Try.func48, Try.ntmps48
  go_wp2_with fail
  refine S1.out.mono ?_
  rintro e w2 ⟨⟨ya, yn, yc⟩, rfl, q2, r2⟩
  have Q2 := hid (Q1.out.trans q2)
  have S2 := hid (sized_any' ⟨pa, pn, pc⟩ ps 2 w2 ⟨HP.out.q Q2.out, LP.out⟩ (by omega) (by omega) (by have := HPN.out; show pn ≤ _; omega))
  have R2 := hid r2
  clear q2 r2 hcv
  dsimp only at S2
  go_wp2_with fail
  refine S2.out.mono ?_
  rintro e w3 ⟨⟨za, zn, zc⟩, rfl, q3, r3⟩
  rw [← LP.out] at r3
  have Q3 := hid (Q2.out.trans q3)
  have BU := hid (build2n 8 w3 ⟨ya, yn, yc⟩ ⟨za, zn, zc⟩ _ _ ⟨R2.out.seg.q q3, Row.len R2.out⟩ ⟨r3.seg, Row.len r3⟩ (by have h1 := HSS.out; have h2 := HPN.out; have h3 := LP.out; simp only [List.length_append, be_length, sb_len]; omega))
  clear q3 r3
  dsimp only at BU
  go_wp2_with fail
  refine BU.out.mono ?_
  rintro e w4 ⟨⟨xa, xn, xc⟩, rfl, q4, r4, n4⟩
  have HQ := hid (show Q w w4 ∧ Row w4 ⟨xa, xn, xc⟩ _ ∧ New w.heap.size ⟨xa, xn, xc⟩ from ⟨Q3.out.trans q4, r4, n4.mono Q3.out.size⟩)
  clear q4 r4 n4
  dsimp only
  go_wp2
  go_ret
  exact ⟨⟨xa, xn, xc⟩, rfl, HQ.out⟩

set_option maxHeartbeats 8000000 in
theorem expand_new (k : Sv) (ks : List Int) (s : ByteArray) (n : Int) (w : World) (hk : In w k ks) (bk : k.n ≤ 140737488355328) (bs : s.size ≤ 9223372036854775807) :
    Calls Try.prog 86 #[.slice k.a k.n k.c, .string s, .int .i64 n] w fun e w' => ∃ x : Sv, e = .returned (.tuple #[.slice x.a x.n x.c, .int .i64 (expE k.n s.size n)]) ∧ Q w w' ∧ Row w' x (expR ks (sb s) n) ∧ New w.heap.size x := by
  have HK := hid hk
  have HR := hid (show expR ks (sb s) n = if expE k.n s.size n = 0 then exL ks (sb s) n.toNat else [] from by unfold expR; rw [hk.l, sb_len])
  clear hk
  obtain ⟨ka, kn, kc⟩ := k
  dsimp only at *
  by_cases h1 : (255 : Int) < (kn : Int)
  · have HE := hid (show expE kn s.size n = 70 from by unfold expE; rw [if_pos (by omega)])
    rw [HE.out] at HR
    rw [HE.out, HR.out, if_neg (by decide)]
    go_enter Try.func86, Try.ntmps86
    go_wp2
    go_ret2
    exact ⟨nilS, rfl, Q.refl _, sub_nil _ _ _, fun b e => by cases e⟩
  by_cases h2 : (255 : Int) < (s.size : Int)
  · have HE := hid (show expE kn s.size n = 70 from by unfold expE; rw [if_pos (by omega)])
    rw [HE.out] at HR
    rw [HE.out, HR.out, if_neg (by decide)]
    go_enter Try.func86, Try.ntmps86
    go_wp2
    go_ret2
    exact ⟨nilS, rfl, Q.refl _, sub_nil _ _ _, fun b e => by cases e⟩
  by_cases h3 : n < 0
  · have HE := hid (show expE kn s.size n = 52 from by unfold expE; rw [if_neg (by omega), if_pos (by omega)])
    rw [HE.out] at HR
    rw [HE.out, HR.out, if_neg (by decide)]
    go_enter Try.func86, Try.ntmps86
    go_wp2
    go_ret2
    exact ⟨nilS, rfl, Q.refl _, sub_nil _ _ _, fun b e => by cases e⟩
  by_cases h4 : 1024 < n
  · have HE := hid (show expE kn s.size n = 52 from by unfold expE; rw [if_neg (by omega), if_pos (by omega)])
    rw [HE.out] at HR
    rw [HE.out, HR.out, if_neg (by decide)]
    go_enter Try.func86, Try.ntmps86
    go_wp2
    go_ret2
    exact ⟨nilS, rfl, Q.refl _, sub_nil _ _ _, fun b e => by cases e⟩
  obtain ⟨n, rfl⟩ := Int.eq_ofNat_of_zero_le (show 0 ≤ n by omega)
  have HE := hid (show expE kn s.size n = 0 from by unfold expE; rw [if_neg (by omega), if_neg (by omega)])
  rw [HE.out] at HR
  rw [HE.out, HR.out, if_pos rfl, Int.toNat_natCast]
  have HEB := hid (eb_eq ks (sb s))
  clear HR HE
  go_enter Try.func86, Try.ntmps86
  go_wp2_with fail
  refine (start_any w).mono ?_
  rintro e w2 ⟨rfl, q2⟩
  have Q2 := hid q2
  clear q2
  generalize st0 = m0 at *
  go_wp2_with fail
  refine (sized_any m0 ka kn kc ks w2 HK.out.l (by omega) HK.out.z (HK.out.s.q Q2.out)).mono ?_
  rintro e w3 ⟨rfl, q3⟩
  have Q3 := hid (Q2.out.trans q3)
  clear Q2 q3
  generalize mix m0 (tx ks) = m1 at *
  obtain ⟨lc, w4, hrun, q4, i4⟩ := conv_any s w3
  have Q4 := hid (Q3.out.trans q4)
  have I4 := hid i4
  clear q4 i4 Q3
  go_wp2_with fail
  refine (sized_any m1 (some ⟨w3.heap.size, 0, none⟩) s.size lc (sb s) w4 I4.out.l (by omega) I4.out.z I4.out.s).mono ?_
  rintro e w5 ⟨rfl, q5⟩
  have Q5 := hid (Q4.out.trans q5)
  clear Q4 q5 I4 hrun
  generalize mix m1 (tx (sb s)) = m3 at *
  go_wp2
  have START := hid (show ExI w (w5.alloc (.cells (mcells m3) 114)) w5.heap.size m3 nilS [] from ⟨Q5.out.alloc _, heap_alloc_new w5 _, sub_nil _ _ _, fun b e => (by cases e), Q5.out.size⟩)
  generalize hw6 : World.alloc w5 _ = w6 at *
  clear hw6 Q5
  generalize w5.heap.size = g8 at *
  go_loopw [9, 10] (fun os is wr => ∃ (i : Nat) (x : Sv), 16 * i < n + 16 ∧ is = .int .i64 i ∧ os = .slice x.a x.n x.c ∧ ExI w wr g8 m3 x ((catE ks (sb s) i).take n)) (fun _ is _ => ((n : Int) + 16 - intOf is).toNat)
  case atStart => exact ⟨0, nilS, by omega, rfl, rfl, by rw [show catE ks (sb s) 0 = [] from rfl, List.take_nil]; exact START.out⟩
  case round =>
    clear START
    obtain ⟨i, ⟨xa, xn, xc⟩, hi, rfl, rfl, hI⟩ := hrel
    have hxn : xn = min n (16 * i) := by
      have h1 : ((catE ks (sb s) i).take n).length = xn := Row.len hI.r
      rw [List.length_take, catE_len] at h1; omega
    have HI := hid hI
    clear hI
    by_cases hin : 16 * i < n
    · have hxi : xn = 16 * i := by omega
      have hlt : (xn : Int) < (n : Int) := by omega
      have HXI := hid hxi
      clear hxi hxn
      have c0 := HI.out.m.c0
      have c1 := HI.out.m.c1
      have c2 := HI.out.m.c2
      go_wp2_with fail
      refine (with_one m3 i wr (by omega) (by omega)).mono ?_
      rintro e w7 ⟨rfl, q7⟩
      have HI7 := hid (HI.out.step q7)
      have hbi := HEB.out i
      rw [show (i : Int) % 256 = (i : Int) by omega] at hbi
      have HBI := hid hbi
      clear q7 HI c0 c1 c2 hbi
      generalize mix m3 [(i : Int)] = m4 at *
      go_wp2_with fail
      refine (sum_any m4 w7).mono ?_
      rintro e w8 ⟨rfl, q8⟩
      have HI8 := hid (HI7.out.step q8)
      rw [← HBI.out]
      have HTL := hid (eb_len ks (sb s) i)
      have HST := hid (ex_step ks (sb s) i n hin)
      clear q8 HI7 HBI
      generalize eb ks (sb s) i = ts at *
      go_wp2_with (refine wpList_store_row rfl 63 _ _ rfl w8.heap.size (u8s ts).toArray rfl rfl 63 _ (heap_alloc_new w8 _) (arr_info _ HTL.out) (arr_sizes (List.replicate 16 0) _ rfl HTL.out) (arr_one _) ?_; refine Hid.out ?_)
      refine hid ?_
      generalize hw9 : World.setRow _ _ _ = w9
      have q89 : Q w8 w9 := by
        have k9 : Keep (fun i => i = w8.heap.size) w8 w9 := by rw [← hw9]; exact ((Keep.refl (fun i => i = w8.heap.size) w8).alloc _).setRow _ _ (.inl rfl)
        exact k9.below (Q.refl _) (Nat.le_refl _) (fun i e => by omega)
      have T9 := hid (seg_arr (show w9.heap[w8.heap.size]? = some (.cells (u8s ts).toArray 63 (0, 0)) from by rw [← hw9]; exact setRow_heap _ _ _ _ 63 _ (heap_alloc_new w8 _)))
      have HI9 := hid (HI8.out.step q89)
      clear hw9 q89 HI8
      generalize w8.heap.size = tg at *
      obtain ⟨kk, hkk, hk16, KK⟩ : ∃ kk : Nat, min 16 ((n : Int) - (xn : Int)) = (kk : Int) ∧ kk ≤ 16 ∧ Hid (kk = min 16 (n - 16 * i)) := ⟨min 16 (n - 16 * i), by have := HXI.out; omega, by omega, hid rfl⟩
      have hk16' : (kk : Int) ≤ 16 := by omega
      obtain ⟨⟨ya, yn, yc⟩, w2, hrun, hrow, hkp, hb⟩ := row_append (ty := 24) (d := ⟨xa, xn, xc⟩) (x := .slice (some ⟨tg, 0, none⟩) kk 16) (m := kk) (ys := ts.take kk) HI9.out.r (src_seg (seg_take T9.out kk) (by rw [List.length_take, HTL.out]; omega)) (by have := HXI.out; show xn + kk ≤ 1000000; omega)
      have HX := hid (show ExI w w2 g8 m3 ⟨ya, yn, yc⟩ ((catE ks (sb s) (i + 1)).take n) from HI9.out.app (by rw [HST.out, ← KK.out]; exact hrow) hkp hb)
      clear hrow hkp hb HI9 T9 HST
      go_wp2_with (at_builtin; refine Lib.wpList_append_run _ rfl _ _ _ _ rfl _ _ rfl rfl _ _ hrun ?_)
      go_roundw
      case rel => exact ⟨i + 1, ⟨ya, yn, yc⟩, by omega, by go_num, rfl, HX.out⟩
      case measure => simp [intOf]; omega
    · have hxi : xn = n := by omega
      subst hxi
      have hlt : ¬ (xn : Int) < (xn : Int) := by omega
      have HR := hid (show Row wr ⟨xa, xn, xc⟩ (exL ks (sb s) xn) from by rw [← exL_eq ks (sb s) xn i (by omega)]; exact HI.out.r)
      clear hxn
      go_wp2
      go_ret2
      exact ⟨⟨xa, xn, xc⟩, rfl, HI.out.q, HR.out, fun b e => (HI.out.n b e).1⟩

set_option maxHeartbeats 4000000 in
theorem sexpand_new (k : Sv) (ks : List Int) (s : ByteArray) (w : World) (hk : In w k ks) (bk : k.n ≤ 255) (bs : s.size ≤ 255) :
    Calls Try.prog 81 #[.slice k.a k.n k.c, .string s] w fun e w' => ∃ x : Sv, e = .returned (.slice x.a x.n x.c) ∧ Q w w' ∧ Row w' x (expR ks (sb s) 16) ∧ New w.heap.size x := by
  have EX := hid (expand_new k ks s 16 w hk (by omega) (by omega))
  clear hk bk bs
  obtain ⟨ka, kn, kc⟩ := k
  dsimp only at *
  generalize expE kn s.size 16 = er at *
  generalize expR ks (sb s) 16 = rs at *
  go_enter Try.func81, Try.ntmps81
  go_wp2_with fail
  refine EX.out.mono ?_
  rintro e w1 ⟨⟨xa, xn, xc⟩, rfl, hq⟩
  have HQ := hid hq
  clear hq
  dsimp only
  go_wp2
  go_ret
  exact ⟨⟨xa, xn, xc⟩, rfl, HQ.out⟩

section
variable {rb tb : Nat} {s1 s2 : ByteArray} {x0 x4 x5 x7 x8 x9 x10 x11 x12 x13 : Value} {w : World} {R : Exit → Act → World → Prop}
set_option maxHeartbeats 8000000 in
theorem sec1n (X Y : List Int) (hT : ∀ u, Q w u → u.heap[tb]? = some (.cells #[.slice none 0 0, .slice none 0 0] 39 (0, 0)))
    (h1 : ∀ u, Q w u → Calls Try.prog 81 #[.slice (some ⟨rb, 0, none⟩) 16 16, .string s1] u fun e w' => ∃ x : Sv, e = .returned (.slice x.a x.n x.c) ∧ Q u w' ∧ (Row w' x X ∧ New w.heap.size x)) (h2 : ∀ u, Q w u → Calls Try.prog 81 #[.slice (some ⟨rb, 0, none⟩) 16 16, .string s2] u fun e w' => ∃ x : Sv, e = .returned (.slice x.a x.n x.c) ∧ Q u w' ∧ (Row w' x Y ∧ New w.heap.size x))
    (hQ : ∀ c a d v w, R (.panic c) (a.put d v) w → R (.panic c) a w)
    (hE : ∀ (a b : Sv) (v : World), Q w v → Row v a X → Row v b Y → New w.heap.size a → New w.heap.size b → R .normal (⟨#[x0, .string s1, .string s2, .pointer (some ⟨rb, 0, none⟩), x4, x5, .pointer (some ⟨tb, 0, none⟩), .slice (some ⟨rb, 0, none⟩) 16 16, .string s1, .slice a.a a.n a.c, .slice (some ⟨rb, 0, none⟩) 16 16, .string s2, .slice b.a b.n b.c, .agg #[.slice a.a a.n a.c, .slice b.a b.n b.c]], []⟩ : Act) (v.setRow tb #[.slice a.a a.n a.c, .slice b.a b.n b.c])) :
    (Code.region 1 (RofN Try.f70 1) true).wp Try.prog R (⟨#[x0, .string s1, .string s2, .pointer (some ⟨rb, 0, none⟩), x4, x5, .pointer (some ⟨tb, 0, none⟩), x7, x8, x9, x10, x11, x12, x13], []⟩ : Act) w := by
  refine wp_region_held (S := (fun _ => True)) (by kernel_rfl) ?_
  have hsz : (RofN Try.f70 1).size = 8 := by kernel_rfl
  rw [hsz]
  have q0 : Q w w.drew := (Q.refl w).drew
  refine chn_take (by kernel_rfl) hQ trivial 4 (c0 rb s1 s2) _ _ c0c ?_
  have e0 : putL (RofN Try.f70 1) (c0 rb s1 s2) (⟨#[x0, .string s1, .string s2, .pointer (some ⟨rb, 0, none⟩), x4, x5, .pointer (some ⟨tb, 0, none⟩), x7, x8, x9, x10, x11, x12, x13], []⟩ : Act) = (⟨#[x0, .string s1, .string s2, .pointer (some ⟨rb, 0, none⟩), x4, x5, .pointer (some ⟨tb, 0, none⟩), .slice (some ⟨rb, 0, none⟩) 16 16, .string s1, x9, .slice (some ⟨rb, 0, none⟩) 16 16, .string s2, x12, x13], []⟩ : Act) := by kernel_rfl
  have l0 : setL (c0 rb s1 s2) (Array.replicate 8 false) = (#[true, true, false, true, true, false, false, false] : Array Bool) := by kernel_rfl
  rw [e0, l0]
  clear e0 l0
  have hc : (execOp (⟨#[x0, .string s1, .string s2, .pointer (some ⟨rb, 0, none⟩), x4, x5, .pointer (some ⟨tb, 0, none⟩), .slice (some ⟨rb, 0, none⟩) 16 16, .string s1, x9, .slice (some ⟨rb, 0, none⟩) 16 16, .string s2, x12, x13], []⟩ : Act).eval (((RofN Try.f70 1)[2]?).getD default)).run Try.prog w.drew = .ok (.enter 81 #[.slice (some ⟨rb, 0, none⟩) 16 16, .string s1]) w.drew := by kernel_rfl
  refine wpAnyH_one (i := 2) (by kernel_rfl) ?_
  refine wpOp_callx (some 9) (by kernel_rfl) (by kernel_rfl) (by kernel_rfl) 81 #[.slice (some ⟨rb, 0, none⟩) 16 16, .string s1] hc (h1 _ q0) ?_
  clear hc
  rintro e w1 ⟨a, rfl, q1, r1, n1⟩
  have p1 := q0.trans q1
  refine ⟨_, rfl, trivial, ?_⟩
  have e0 : (⟨#[x0, .string s1, .string s2, .pointer (some ⟨rb, 0, none⟩), x4, x5, .pointer (some ⟨tb, 0, none⟩), .slice (some ⟨rb, 0, none⟩) 16 16, .string s1, x9, .slice (some ⟨rb, 0, none⟩) 16 16, .string s2, x12, x13], []⟩ : Act).put (some 9) (.slice a.a a.n a.c) = (⟨#[x0, .string s1, .string s2, .pointer (some ⟨rb, 0, none⟩), x4, x5, .pointer (some ⟨tb, 0, none⟩), .slice (some ⟨rb, 0, none⟩) 16 16, .string s1, .slice a.a a.n a.c, .slice (some ⟨rb, 0, none⟩) 16 16, .string s2, x12, x13], []⟩ : Act) := by kernel_rfl
  have l0 : (#[true, true, false, true, true, false, false, false] : Array Bool).setIfInBounds 2 true = (#[true, true, true, true, true, false, false, false] : Array Bool) := by kernel_rfl
  rw [e0, l0]
  clear e0 l0
  have hc : (execOp (⟨#[x0, .string s1, .string s2, .pointer (some ⟨rb, 0, none⟩), x4, x5, .pointer (some ⟨tb, 0, none⟩), .slice (some ⟨rb, 0, none⟩) 16 16, .string s1, .slice a.a a.n a.c, .slice (some ⟨rb, 0, none⟩) 16 16, .string s2, x12, x13], []⟩ : Act).eval (((RofN Try.f70 1)[5]?).getD default)).run Try.prog w1 = .ok (.enter 81 #[.slice (some ⟨rb, 0, none⟩) 16 16, .string s2]) w1 := by kernel_rfl
  refine wpAnyH_one (i := 5) (by kernel_rfl) ?_
  refine wpOp_callx (some 12) (by kernel_rfl) (by kernel_rfl) (by kernel_rfl) 81 #[.slice (some ⟨rb, 0, none⟩) 16 16, .string s2] hc (h2 _ p1) ?_
  clear hc
  rintro e w2 ⟨b, rfl, q2, r2, n2⟩
  have p2 := p1.trans q2
  refine ⟨_, rfl, trivial, ?_⟩
  have e0 : (⟨#[x0, .string s1, .string s2, .pointer (some ⟨rb, 0, none⟩), x4, x5, .pointer (some ⟨tb, 0, none⟩), .slice (some ⟨rb, 0, none⟩) 16 16, .string s1, .slice a.a a.n a.c, .slice (some ⟨rb, 0, none⟩) 16 16, .string s2, x12, x13], []⟩ : Act).put (some 12) (.slice b.a b.n b.c) = (⟨#[x0, .string s1, .string s2, .pointer (some ⟨rb, 0, none⟩), x4, x5, .pointer (some ⟨tb, 0, none⟩), .slice (some ⟨rb, 0, none⟩) 16 16, .string s1, .slice a.a a.n a.c, .slice (some ⟨rb, 0, none⟩) 16 16, .string s2, .slice b.a b.n b.c, x13], []⟩ : Act) := by kernel_rfl
  have l0 : (#[true, true, true, true, true, false, false, false] : Array Bool).setIfInBounds 5 true = (#[true, true, true, true, true, true, false, false] : Array Bool) := by kernel_rfl
  rw [e0, l0]
  clear e0 l0
  have hc : (execOp (⟨#[x0, .string s1, .string s2, .pointer (some ⟨rb, 0, none⟩), x4, x5, .pointer (some ⟨tb, 0, none⟩), .slice (some ⟨rb, 0, none⟩) 16 16, .string s1, .slice a.a a.n a.c, .slice (some ⟨rb, 0, none⟩) 16 16, .string s2, .slice b.a b.n b.c, x13], []⟩ : Act).eval (((RofN Try.f70 1)[6]?).getD default)).run Try.prog w2 = .ok (.value (.agg #[.slice a.a a.n a.c, .slice b.a b.n b.c])) w2 := by kernel_rfl
  refine wpAnyH_one (i := 6) (by kernel_rfl) ?_
  refine wpOp_val (some 13) (by kernel_rfl) (by kernel_rfl) (by kernel_rfl) hc ?_
  clear hc
  refine ⟨trivial, ?_⟩
  have e0 : (⟨#[x0, .string s1, .string s2, .pointer (some ⟨rb, 0, none⟩), x4, x5, .pointer (some ⟨tb, 0, none⟩), .slice (some ⟨rb, 0, none⟩) 16 16, .string s1, .slice a.a a.n a.c, .slice (some ⟨rb, 0, none⟩) 16 16, .string s2, .slice b.a b.n b.c, x13], []⟩ : Act).put (some 13) (.agg #[.slice a.a a.n a.c, .slice b.a b.n b.c]) = (⟨#[x0, .string s1, .string s2, .pointer (some ⟨rb, 0, none⟩), x4, x5, .pointer (some ⟨tb, 0, none⟩), .slice (some ⟨rb, 0, none⟩) 16 16, .string s1, .slice a.a a.n a.c, .slice (some ⟨rb, 0, none⟩) 16 16, .string s2, .slice b.a b.n b.c, .agg #[.slice a.a a.n a.c, .slice b.a b.n b.c]], []⟩ : Act) := by kernel_rfl
  have l0 : (#[true, true, true, true, true, true, false, false] : Array Bool).setIfInBounds 6 true = (#[true, true, true, true, true, true, true, false] : Array Bool) := by kernel_rfl
  rw [e0, l0]
  clear e0 l0
  have hc := st_sec (o := ((RofN Try.f70 1)[7]?).getD default) (a := (⟨#[x0, .string s1, .string s2, .pointer (some ⟨rb, 0, none⟩), x4, x5, .pointer (some ⟨tb, 0, none⟩), .slice (some ⟨rb, 0, none⟩) 16 16, .string s1, .slice a.a a.n a.c, .slice (some ⟨rb, 0, none⟩) 16 16, .string s2, .slice b.a b.n b.c, .agg #[.slice a.a a.n a.c, .slice b.a b.n b.c]], []⟩ : Act)) (w := w2) (.tmp 6) (.tmp 13) tb #[.slice a.a a.n a.c, .slice b.a b.n b.c] _ (by kernel_rfl) (by kernel_rfl) (by kernel_rfl) (hT w2 p2) rfl (by kernel_rfl) (by kernel_rfl)
  refine wpAnyH_one (i := 7) (by kernel_rfl) ?_
  refine wpOp_skip none (by kernel_rfl) (by kernel_rfl) (by kernel_rfl) hc ?_
  clear hc
  refine ⟨trivial, ?_⟩
  have e0 : (⟨#[x0, .string s1, .string s2, .pointer (some ⟨rb, 0, none⟩), x4, x5, .pointer (some ⟨tb, 0, none⟩), .slice (some ⟨rb, 0, none⟩) 16 16, .string s1, .slice a.a a.n a.c, .slice (some ⟨rb, 0, none⟩) 16 16, .string s2, .slice b.a b.n b.c, .agg #[.slice a.a a.n a.c, .slice b.a b.n b.c]], []⟩ : Act).put none undef = (⟨#[x0, .string s1, .string s2, .pointer (some ⟨rb, 0, none⟩), x4, x5, .pointer (some ⟨tb, 0, none⟩), .slice (some ⟨rb, 0, none⟩) 16 16, .string s1, .slice a.a a.n a.c, .slice (some ⟨rb, 0, none⟩) 16 16, .string s2, .slice b.a b.n b.c, .agg #[.slice a.a a.n a.c, .slice b.a b.n b.c]], []⟩ : Act) := by kernel_rfl
  have l0 : (#[true, true, true, true, true, true, true, false] : Array Bool).setIfInBounds 7 true = (#[true, true, true, true, true, true, true, true] : Array Bool) := by kernel_rfl
  rw [e0, l0]
  clear e0 l0
  refine wpAnyH_done (by kernel_rfl) ?_ _
  exact hE a b w2 p2 (Sub.q r1 q2) r2 n1 n2
end

set_option maxHeartbeats 8000000 in
theorem secretsOf_new (rs : List Int) (s1 s2 : ByteArray) (w : World) (hl : rs.length = 16) (hz : ByL rs) (h1 : s1.size ≤ 255) (h2 : s2.size ≤ 255) :
    Calls Try.prog 70 #[arr rs, .string s1, .string s2] w fun e w' => ∃ a b : Sv, e = .returned (.agg #[.slice a.a a.n a.c, .slice b.a b.n b.c]) ∧ Q w w' ∧ Row w' a (expR rs (sb s1) 16) ∧ Row w' b (expR rs (sb s2) 16) ∧ New w.heap.size a ∧ New w.heap.size b := by
  have HL := hid hl
  have HZ := hid hz
  have H1 := hid h1
  have H2 := hid h2
  clear hl hz h1 h2
  go_enter Try.func70, Try.ntmps70
  go_upto_region 1 with fail
  generalize hw1 : World.alloc (World.alloc w _) _ = w1
  have B1 := hid (show w1.heap[w.heap.size]? = some (.cells (u8s rs).toArray 63 (0, 0)) from by rw [← hw1]; exact (Below.block ((Q.refl _).alloc _) _ (by simp)).trans (heap_alloc_new w _))
  have T1 := hid (show w1.heap[w.heap.size + 1]? = some (.cells #[.slice none 0 0, .slice none 0 0] 39 (0, 0)) from by
    rw [← hw1]
    have e : (w.alloc (.cells (u8s rs).toArray 63)).heap.size = w.heap.size + 1 := by simp
    rw [← e]; exact heap_alloc_new _ _)
  have Q1 := hid (show Q w w1 from by rw [← hw1]; exact ((Q.refl w).alloc _).alloc _)
  clear hw1
  generalize hrb : w.heap.size = rb at *
  have HRB := hid hrb
  clear hrb
  generalize hR : Code.region 1 _ true = C
  have eR : C = Code.region 1 (RofN Try.f70 1) true := hR.symm.trans (by kernel_rfl)
  clear hR
  subst eR
  refine wp_region_noPanic ?_
  have IN : ∀ u, Q w1 u → In u ⟨some ⟨rb, 0, none⟩, 16, 16⟩ rs := fun u q => ⟨seg_arr ((Below.block q _ (lt_of_block B1.out)).trans B1.out), HL.out, HZ.out⟩
  refine sec1n (expR rs (sb s1) 16) (expR rs (sb s2) 16) (fun u q => (Below.block q _ (lt_of_block T1.out)).trans T1.out) (fun u q => (sexpand_new ⟨some ⟨rb, 0, none⟩, 16, 16⟩ rs s1 u (IN u q) (by show 16 ≤ _; omega) H1.out).mono (by rintro e w' ⟨x, h1, h2, h3, h4⟩; exact ⟨x, h1, h2, h3, h4.mono q.size⟩)) (fun u q => (sexpand_new ⟨some ⟨rb, 0, none⟩, 16, 16⟩ rs s2 u (IN u q) (by show 16 ≤ _; omega) H2.out).mono (by rintro e w' ⟨x, h1, h2, h3, h4⟩; exact ⟨x, h1, h2, h3, h4.mono q.size⟩)) (fun c a d v w h => h) (fun a b v qv ra rb' na nb => ?_)
  refine NoPanic.normal ?_
  rename_i Kc hKc
  refine hKc _ _ ?_
  clear hKc
  have t1 : v.heap[rb + 1]? = some (.cells #[.slice none 0 0, .slice none 0 0] 39 (0, 0)) := (Below.block qv _ (lt_of_block T1.out)).trans T1.out
  have hne : ∀ {x : Sv} {zs : List Int}, Row v x zs → ∀ c, blk x.a = some c → ¬ c = rb + 1 := by
    intro x zs h c e e2
    subst e2
    rcases h.2 with ⟨h1, _⟩ | ⟨g, off, cur, h1, hg, _⟩
    · rw [h1] at e; cases e
    · rw [h1] at e
      simp only [blk, Option.map_some, Option.some.injEq] at e
      rw [e, t1] at hg
      simp at hg
  have k2 : Keep (fun c => c = rb + 1) v (v.setRow (rb + 1) #[.slice a.a a.n a.c, .slice b.a b.n b.c]) := (Keep.refl _ v).setRow _ _ (.inl rfl)
  have HX := hid (show Q w (v.setRow (rb + 1) #[.slice a.a a.n a.c, .slice b.a b.n b.c]) ∧ Row (v.setRow (rb + 1) #[.slice a.a a.n a.c, .slice b.a b.n b.c]) a (expR rs (sb s1) 16) ∧ Row (v.setRow (rb + 1) #[.slice a.a a.n a.c, .slice b.a b.n b.c]) b (expR rs (sb s2) 16) from
    ⟨k2.below (Q1.out.trans qv) (Q1.out.trans qv).size (fun i e => by have := HRB.out; omega), Sub.keep ra k2 (hne ra), Sub.keep rb' k2 (hne rb')⟩)
  have b2 : (v.setRow (rb + 1) #[.slice a.a a.n a.c, .slice b.a b.n b.c]).heap[rb + 1]? = some (.cells #[.slice a.a a.n a.c, .slice b.a b.n b.c] 39 (0, 0)) := setRow_heap _ _ _ _ 39 _ t1
  have HNA := hid (na.mono Q1.out.size)
  have HNB := hid (nb.mono Q1.out.size)
  clear hne k2 t1 ra rb' qv IN na nb
  generalize v.setRow (rb + 1) #[.slice a.a a.n a.c, .slice b.a b.n b.c] = v2 at *
  go_wp2
  refine ret_sec rfl rfl (rb + 1) _ (by kernel_rfl) rfl b2 ⟨a, b, rfl, HX.out.1, HX.out.2.1, HX.out.2.2, HNA.out, HNB.out⟩
end Go.Proofs.Ytekpepnonhbkcaa

/-
  What shake's agree does: a contract that the statements' walks use.
-/
namespace Go.Proofs.Ytekpepnonhbkcaa
open Go.RowKit
set_option linter.unusedVariables false
set_option maxRecDepth 20000

theorem setCells_row {b : Nat} {t : TypeId} : ∀ (vs : List Value) (o : Nat) (w : World) (L : List Value), w.heap[b]? = some (.cells L.toArray t (0, 0)) → o + vs.length ≤ L.length → (w.setCells b o vs).heap[b]? = some (.cells (L.take o ++ (vs ++ L.drop (o + vs.length))).toArray t (0, 0))
  | [], o, w, L, h, hl => by
    rw [World.setCells, h]
    simp
  | v :: r, o, w, L, h, hl => by
    have h1 := heap_setCell_same w b o _ t v h
    have h2 : (w.setCell ⟨b, o, none⟩ v).heap[b]? = some (.cells (L.set o v).toArray t (0, 0)) := by simpa using h1
    rw [World.setCells]
    rw [setCells_row r (o + 1) _ (L.set o v) h2 (by rw [List.length_set]; simp at hl; omega)]
    have hol : o < L.length := by simp at hl; omega
    congr 3
    rw [List.take_add_one, List.getElem?_set_self hol, Option.toList_some, List.take_set_of_le (Nat.le_refl _), List.append_assoc, List.drop_set_of_lt (by omega), show o + 1 + r.length = o + (v :: r).length by simp; omega]
    rfl
theorem keep_setCells {b : Nat} : ∀ (vs : List Value) (o : Nat) (w w0 : World), Keep (fun i => i = b) w0 w → Keep (fun i => i = b) w0 (w.setCells b o vs)
  | [], o, w, w0, k => k
  | v :: r, o, w, w0, k => keep_setCells r (o + 1) _ w0 (k.setCell b o v (.inl rfl))
theorem ShAt.setRoot {w : World} {sb : Nat} {S : Sh} (h : ShAt w sb S) (rt : List Int) (hl : rt.length = 16) : ShAt (w.setCells sb 40 (u8s rt)) sb { S with root := u8s rt } := by
  refine ⟨?_, h.own, by simp [hl]⟩
  rw [setCells_row (u8s rt) 40 w S.cells h.row (by rw [S.len h.own h.root]; simp [hl])]
  congr 3
  unfold Sh.cells
  have e1 : S.own ++ (svv S.waits :: svv S.kept :: .bool S.failed :: svv S.said :: (S.root ++ [svv S.handC, svv S.handS, svv S.appC, svv S.appS, .string S.proto, svv S.peer, svv S.out]))
      = (S.own ++ [svv S.waits, svv S.kept, .bool S.failed, svv S.said]) ++ (S.root ++ [svv S.handC, svv S.handS, svv S.appC, svv S.appS, .string S.proto, svv S.peer, svv S.out]) := by simp
  rw [e1, List.take_left' (by simp [h.own]), show 40 + (u8s rt).length = 40 + 16 by simp [hl], ← List.drop_drop, List.drop_left' (by simp [h.own]), List.drop_left' h.root]
  simp
theorem ShAt.there {w : World} {sb : Nat} {S : Sh} (h : ShAt w sb S) (o n : Nat) (hn : o + n ≤ 63) : w.there sb o n := fun j hj => ⟨by
  rw [h.cell, List.getElem?_eq_getElem (by rw [S.len h.own h.root]; omega)]; rfl, h.free _⟩
theorem ShAt.rootAt {w : World} {sb : Nat} {S : Sh} (h : ShAt w sb S) : w.rangeAt sb 40 S.root := by
  intro j v hj
  have hjl : j < 16 := by
    rcases Nat.lt_or_ge j 16 with hh | hh
    · exact hh
    · rw [List.getElem?_eq_none (by rw [h.root]; exact hh)] at hj; cases hj
  rw [h.cell, show 40 + j = 36 + (j + 1 + 1 + 1 + 1) by omega, S.mid h.own]
  simp only [List.getElem?_cons_succ]
  rw [List.getElem?_append_left (by rw [h.root]; exact hjl)]
  exact hj
theorem ShAt.setHand {w : World} {sb : Nat} {S : Sh} (h : ShAt w sb S) (x y : Sv) : ShAt ((w.setCell ⟨sb, 56, none⟩ (.slice x.a x.n x.c)).setCell ⟨sb, 57, none⟩ (.slice y.a y.n y.c)) sb { S with handC := x, handS := y } := by
  have h1 : ShAt (w.setCell ⟨sb, 56, none⟩ (.slice x.a x.n x.c)) sb { S with handC := x } := h.set 56 _ (by rw [show 56 = 56 + 0 from rfl, S.set_end h.own h.root]; rfl) rfl rfl (by rw [S.len h.own h.root]; omega)
  exact h1.set 57 _ (by rw [show 57 = 56 + 1 from rfl, Sh.set_end _ h1.own h1.root]; rfl) rfl rfl (by rw [Sh.len _ h1.own h1.root]; omega)
theorem ShAt.setApp {w : World} {sb : Nat} {S : Sh} (h : ShAt w sb S) (x y : Sv) : ShAt ((w.setCell ⟨sb, 58, none⟩ (.slice x.a x.n x.c)).setCell ⟨sb, 59, none⟩ (.slice y.a y.n y.c)) sb { S with appC := x, appS := y } := by
  have h1 : ShAt (w.setCell ⟨sb, 58, none⟩ (.slice x.a x.n x.c)) sb { S with appC := x } := h.set 58 _ (by rw [show 58 = 56 + 2 from rfl, S.set_end h.own h.root]; rfl) rfl rfl (by rw [S.len h.own h.root]; omega)
  exact h1.set 59 _ (by rw [show 59 = 56 + 3 from rfl, Sh.set_end _ h1.own h1.root]; rfl) rfl rfl (by rw [Sh.len _ h1.own h1.root]; omega)
/-- What a call leaves of a side. -/
structure Aft (w : World) (B sb : Nat) (S : Sh) (Fs : List Fl) (A' : Ab) (w' : World) (S' : Sh) (Fs' : List Fl) : Prop where
  f : Fu w' B sb S' Fs' A'
  k : Keep (Mut sb S Fs) w w'
  m : ∀ b, Mut sb S' Fs' b → Mut sb S Fs b ∨ w.heap.size ≤ b
  kp : S'.kept = S.kept
theorem Aft.trans {w w1 w2 : World} {B sb : Nat} {S S1 S2 : Sh} {Fs Gs Hs : List Fl} {A1 A2 : Ab} (h : Aft w B sb S Fs A1 w1 S1 Gs) (k : Aft w1 B sb S1 Gs A2 w2 S2 Hs) : Aft w B sb S Fs A2 w2 S2 Hs := by
  refine ⟨k.f, h.k.trans' k.k (fun i hi m => ?_), fun b m => ?_, k.kp.trans h.kp⟩
  · rcases h.m i m with m | m
    · exact m
    · omega
  · rcases k.m b m with m | m
    · exact h.m b m
    · exact .inr (Nat.le_trans h.k.size m)
theorem Aft.refl {w : World} {B sb : Nat} {S : Sh} {Fs : List Fl} {A : Ab} (h : Fu w B sb S Fs A) : Aft w B sb S Fs A w S Fs := ⟨h, Keep.refl _ _, fun b m => .inl m, rfl⟩
theorem Aft.q {w w' : World} {B sb : Nat} {S : Sh} {Fs : List Fl} {A : Ab} (h : Fu w B sb S Fs A) (q : Q w w') : Aft w B sb S Fs A w' S Fs := ⟨h.q q, Keep.ofQ q, fun b m => .inl m, rfl⟩
theorem seg_const {w : World} {g : Nat} {zs : List Int} {t : Nat} {fr : Nat × Nat} (h : w.heap[g]? = some (.cells (u8s zs).toArray t fr)) : Seg w (some ⟨g, 0, none⟩) zs := by
  intro _
  refine ⟨g, 0, rfl, fun i hi => ?_⟩
  rw [cell_of_row _ _ _ _ t fr h, Nat.zero_add, List.getElem?_toArray, List.getElem?_map, List.getElem?_eq_getElem hi, List.getD_eq_getElem?_getD, List.getElem?_eq_getElem hi]; rfl
def tHs : List Int := [116, 117, 114, 110, 112, 105, 107, 101, 32, 104, 115]
theorem tHs_by : ByL tHs := by
  unfold ByL tHs
  decide
def sChs : ByteArray := ⟨#[99, 32, 104, 115]⟩
def sShs : ByteArray := ⟨#[115, 32, 104, 115]⟩
/-- The root, once both have told their public numbers. -/
def rtL (A : Ab) (pub : Int) : List Int := dg (tHs ++ (be 8 (pwr pub A.pv) ++ dg A.sd))
def agA (A : Ab) (pub : Int) : Ab := { A with rt := rtL A pub, hc := expR (rtL A pub) (sb sChs) 16, hs := expR (rtL A pub) (sb sShs) 16 }
theorem pwr_bd2 (b e : Int) : 0 ≤ pwr b e ∧ pwr b e ≤ 9223372036854775807 := by
  unfold pwr
  split
  · omega
  · have := Nat.mod_lt (b.toNat ^ e.toNat) (show 0 < 2305843009213693951 by omega)
    omega
theorem be_by (k : Nat) (n : Int) : ByL (be k n) := by
  induction k with
  | zero => intro y hy; cases hy
  | succ k ih =>
    intro y hy
    rw [be] at hy
    rcases List.mem_cons.1 hy with rfl | hy
    · omega
    · exact ih y hy
theorem Fu.pv {w : World} {B sb : Nat} {S : Sh} {Fs : List Fl} {A : Ab} (h : Fu w B sb S Fs A) : w.cell? ⟨sb, 33, none⟩ = some (.int .i64 A.pv) := by
  obtain ⟨t, p, e, l, _⟩ := h.re.own
  rw [h.sd.at_.cell]
  unfold Sh.cells
  rw [e, List.getElem?_append_left (by rw [ccells_len l]; omega)]
  unfold ccells
  rw [show 33 = 32 + 1 from rfl, List.getElem?_cons_succ, List.getElem?_append_right (by simp [l])]
  simp [l]
set_option maxHeartbeats 8000000 in
theorem agr_any (B sb : Nat) (S : Sh) (Fs : List Fl) (A : Ab) (pub : Int) (w : World) (h : Fu w B sb S Fs A) (hz : ByL A.sd) (hn : A.sd.length ≤ 500000) (hpv : A.pv ≤ 9223372036854775807) :
    Calls Try.prog 47 #[.pointer (some ⟨sb, 0, none⟩), .int .i64 pub] w fun e w' => e = .returned (.tuple #[]) ∧ ∃ S', Aft w B sb S Fs (agA A pub) w' S' Fs := by
  have c33 := h.pv
  have HAG := hid (agree_any A.pv pub w hpv)
  have hpb := pwr_bd2 pub A.pv
  have HF := hid h
  have HZ := hid hz
  have HN := hid hn
  have HL := hid (show A.sd.length = S.said.n from Row.len h.sd.sr)
  clear h hz hn
  generalize hpp : pwr pub A.pv = pp at *
  have HPP := hid hpp
  clear hpp
  go_enter Try.func47, Try.ntmps47
  go_wp2_with (first
    | (go_at_call 67; refine HAG.out.mono ?_; rintro e w1 ⟨rfl, q1⟩; have Q1 := hid q1; clear q1)
    | (go_at_call 56; refine (num_any pp 8 w1 hpb.1 hpb.2 (by omega) (by omega)).mono ?_; rintro e w2 ⟨g2, rfl, q2, o2⟩; have Q2 := hid (Q1.out.trans q2); have O2 := hid o2.seg; clear q2 o2; refine Hid.out ?_))
  refine hid ?_
  have kcv := Lib.run_convert_bytes_const (P := Try.prog) w2 24 5 #[.int .u8 116, .int .u8 117, .int .u8 114, .int .u8 110, .int .u8 112, .int .u8 105, .int .u8 107, .int .u8 101, .int .u8 32, .int .u8 104, .int .u8 115] 11 11 Try.underlying24 Try.underlying5
  have SU := hid (ssum_any sb S A.sd (w2.alloc (.cells #[.int .u8 116, .int .u8 117, .int .u8 114, .int .u8 110, .int .u8 112, .int .u8 105, .int .u8 107, .int .u8 101, .int .u8 32, .int .u8 104, .int .u8 115] 5 (11, 12))) (HF.out.q (Q2.out.alloc _)).sd.at_ (Row.seg (HF.out.q (Q2.out.alloc _)).sd.sr) HL.out (by have := HL.out; have := HN.out; omega) HZ.out)
  have SC := hid (show Seg (w2.alloc (.cells #[.int .u8 116, .int .u8 117, .int .u8 114, .int .u8 110, .int .u8 112, .int .u8 105, .int .u8 107, .int .u8 101, .int .u8 32, .int .u8 104, .int .u8 115] 5 (11, 12))) (some ⟨w2.heap.size, 0, none⟩) tHs from seg_const (zs := tHs) (heap_alloc_new w2 _))
  have Q3 := hid (show Q w2 (w2.alloc (.cells #[.int .u8 116, .int .u8 117, .int .u8 114, .int .u8 110, .int .u8 112, .int .u8 105, .int .u8 107, .int .u8 101, .int .u8 32, .int .u8 104, .int .u8 115] 5 (11, 12))) from (Q.refl _).alloc _)
  clear c33
  go_wp2_with fail
  refine SU.out.mono ?_
  rintro e w4 ⟨g4, rfl, q4, s4, hg4⟩
  have Q4 := hid (Q3.out.trans q4)
  have D3 := hid (dig3 w4 ⟨some ⟨w2.heap.size, 0, none⟩, 11, 11⟩ ⟨some ⟨g2, 0, none⟩, 8, 8⟩ ⟨some ⟨g4, 0, none⟩, 16, 16⟩ tHs (be 8 pp) (dg A.sd) ⟨SC.out.q q4, rfl⟩ ⟨O2.out.q Q4.out, be_length 8 pp⟩ ⟨s4, dg_len _⟩ (by rw [be_length, dg_len]; decide) tHs_by (be_by 8 pp) (dg_lt _))
  have F4 := hid (HF.out.q (Q2.out.trans Q4.out))
  have W4 := hid (Q2.out.trans Q4.out)
  clear q4 s4 hg4 SU SC Q3 O2 Q4
  have HRT := hid (show dg (tHs ++ (be 8 pp ++ dg A.sd)) = rtL A pub from by unfold rtL; rw [HPP.out])
  rw [HRT.out] at D3
  have HRL := hid (show (rtL A pub).length = 16 from dg_len _)
  have HRZ := hid (show ByL (rtL A pub) from dg_lt _)
  have HAA := hid (show agA A pub = { A with rt := rtL A pub, hc := expR (rtL A pub) (Go.Proofs.Ytekpepnonhbkcaa.sb sChs) 16, hs := expR (rtL A pub) (Go.Proofs.Ytekpepnonhbkcaa.sb sShs) 16 } from rfl)
  dsimp only at D3
  generalize rtL A pub = ds at *
  go_wp2_with fail
  refine D3.out.mono ?_
  rintro e w5 ⟨rfl, q5⟩
  have F5 := hid (F4.out.q q5)
  have W5 := hid (W4.out.trans q5)
  have hth := F5.out.sd.at_.there 40 16 (by omega)
  have hinf := arr_info ds HRL.out
  have hone := arr_one ds
  have hth2 : w5.there sb 40 (u8s ds).toArray.size := by rw [show (u8s ds).toArray.size = 16 by simp [HRL.out]]; exact hth
  clear q5 D3 F4 W4
  go_wp2_with (refine wpList_store_mid rfl 63 _ _ rfl sb 40 (u8s ds).toArray rfl rfl hth2 hinf hone ?_; refine Hid.out ?_)
  refine hid ?_
  generalize hw6 : World.setCells _ _ _ _ = w6
  have k6 : Keep (fun b => b = sb) w5 w6 := by rw [← hw6]; exact keep_setCells _ _ _ _ (Keep.refl _ _)
  have a6 : ShAt w6 sb { S with root := u8s ds } := by rw [← hw6]; exact F5.out.sd.at_.setRoot ds HRL.out
  have r6 := F5.out.re.keep k6 mut_sb (M' := Mut sb { S with root := u8s ds } Fs) (fun b m => .inl ((mut_eq (S := S) rfl rfl rfl b).1 m))
  have F6 := hid (show Fu w6 B sb { S with root := u8s ds } Fs { A with rt := ds } from F5.out.cells a6 k6 rfl rfl rfl rfl rfl rfl ⟨r6.own, r6.wt, r6.fd, rfl, r6.hc, r6.hs, r6.ac, r6.as_, r6.pr, r6.pe⟩)
  have K6 := hid k6
  clear hw6 r6 k6 a6 hth hth2
  have hrg : w6.rangeAt sb 40 (u8s ds) := F6.out.sd.at_.rootAt
  have hin2 : (Try.prog.info? 63).map (·.size) = some (u8s ds).length := by rw [hinf]; simp
  have HSE := hid (secretsOf_new ds sChs sShs w6 HRL.out HRZ.out (by decide) (by decide))
  go_wp2_with (first
    | (refine wpList_load_mid rfl 63 _ rfl sb 40 rfl (u8s ds) _ hrg Try.underlying63 rfl hin2 ?_)
    | (go_at_call 70; refine HSE.out.mono ?_; rintro e w7 ⟨⟨xa, xn, xc⟩, ⟨ya, yn, yc⟩, rfl, q7, rx, ry, nx, ny⟩; have F7 := hid (F6.out.q q7); have Q7 := hid q7; have RX := hid rx; have RY := hid ry; have NX := hid nx; have NY := hid ny; have c56 := F7.out.sd.at_.handC; have c57 := F7.out.sd.at_.handS; have f56 := F7.out.sd.at_.free 56; have f57 := F7.out.sd.at_.free 57; clear q7 rx ry nx ny))
  have hlt6 := F6.out.sd.at_.lt
  have k8 : Keep (fun b => b = sb) w7 ((w7.setCell ⟨sb, 56, none⟩ (.slice xa xn xc)).setCell ⟨sb, 57, none⟩ (.slice ya yn yc)) := ((Keep.refl (fun b => b = sb) w7).setCell sb 56 _ (.inl rfl)).setCell sb 57 _ (.inl rfl)
  have a8 := F7.out.sd.at_.setHand ⟨xa, xn, xc⟩ ⟨ya, yn, yc⟩
  dsimp only at a8
  generalize World.setCell (World.setCell _ _ _) _ _ = w8 at *
  go_end0
  refine ⟨rfl, { S with root := u8s ds, handC := ⟨xa, xn, xc⟩, handS := ⟨ya, yn, yc⟩ }, ?_⟩
  have r8 := F7.out.re.keep k8 mut_sb (M' := Mut sb { S with root := u8s ds, handC := ⟨xa, xn, xc⟩, handS := ⟨ya, yn, yc⟩ } Fs) (fun b m => .inl ((mut_eq (S := { S with root := u8s ds }) rfl rfl rfl b).1 m))
  have hM : ∀ b, Mut sb { S with root := u8s ds, handC := ⟨xa, xn, xc⟩, handS := ⟨ya, yn, yc⟩ } Fs b → b < w6.heap.size := fun b m => (F6.out.mut ((mut_eq (S := { S with root := u8s ds }) rfl rfl rfl b).1 m)).2
  have nx : ∀ b, blk xa = some b → ¬ b = sb := fun b e => by have := NX.out b e; omega
  have ny : ∀ b, blk ya = some b → ¬ b = sb := fun b e => by have := NY.out b e; omega
  refine ⟨F7.out.cells a8 k8 rfl rfl rfl rfl rfl rfl ⟨r8.own, r8.wt, r8.fd, by rw [HAA.out], by rw [HAA.out]; exact RO.new (Sub.keep RX.out k8 nx) NX.out hM, by rw [HAA.out]; exact RO.new (Sub.keep RY.out k8 ny) NY.out hM, r8.ac, r8.as_, r8.pr, r8.pe⟩, ?_, fun b m => .inl ((mut_eq (S := S) rfl rfl rfl b).1 m), rfl⟩
  exact ((Keep.ofQ W5.out).trans (K6.out.mono (fun i _ e => mut_sb i e))).trans ((Keep.ofQ Q7.out).trans (k8.mono (fun i _ e => mut_sb i e)))
end Go.Proofs.Ytekpepnonhbkcaa

/-
  The drawn region of shake's conclude, gone through by hand, a lemma a state.
-/
namespace Go.Proofs.Ytekpepnonhbkcaa
open Go.RowKit
set_option linter.unusedVariables false
set_option maxRecDepth 20000

theorem wpAnyH_l2 {P : Program} {ops : Array Oper} {Q : Exit → Act → World → Prop} {S : World → Prop} {i j fuel : Nat} {L : Array Bool} {a : Act} {w : World} (hr : Region.ready .any ops L = [i, j])
    (h1 : wpOp P ops Q i (fun a' w' => S w' ∧ wpAnyH P .any ops Q S fuel (L.setIfInBounds i true) a' w') a w)
    (h2 : wpOp P ops Q j (fun a' w' => S w' ∧ wpAnyH P .any ops Q S fuel (L.setIfInBounds j true) a' w') a w) : wpAnyH P .any ops Q S (fuel + 1) L a w :=
  wpAnyH_all hr (by simp) (fun l hl => by
    rcases List.mem_cons.1 hl with e | hl
    · rw [e]; exact h1
    · have e' : l = j := by simpa using hl
      rw [e']; exact h2)
theorem wpAnyH_l3 {P : Program} {ops : Array Oper} {Q : Exit → Act → World → Prop} {S : World → Prop} {i j k fuel : Nat} {L : Array Bool} {a : Act} {w : World} (hr : Region.ready .any ops L = [i, j, k])
    (h1 : wpOp P ops Q i (fun a' w' => S w' ∧ wpAnyH P .any ops Q S fuel (L.setIfInBounds i true) a' w') a w)
    (h2 : wpOp P ops Q j (fun a' w' => S w' ∧ wpAnyH P .any ops Q S fuel (L.setIfInBounds j true) a' w') a w)
    (h3 : wpOp P ops Q k (fun a' w' => S w' ∧ wpAnyH P .any ops Q S fuel (L.setIfInBounds k true) a' w') a w) : wpAnyH P .any ops Q S (fuel + 1) L a w :=
  wpAnyH_all hr (by simp) (fun l hl => by
    rcases List.mem_cons.1 hl with e | hl
    · rw [e]; exact h1
    · rcases List.mem_cons.1 hl with e | hl
      · rw [e]; exact h2
      · have e' : l = k := by simpa using hl
        rw [e']; exact h3)

abbrev tApC : Array Value := #[.int .u8 116, .int .u8 117, .int .u8 114, .int .u8 110, .int .u8 112, .int .u8 105, .int .u8 107, .int .u8 101, .int .u8 32, .int .u8 97, .int .u8 112]
def tAp : List Int := [116, 117, 114, 110, 112, 105, 107, 101, 32, 97, 112]
theorem tAp_by : ByL tAp := by
  unfold ByL tAp
  decide
/-- A mark that is laid on a block. -/
theorem freeze_block (w : World) (b k : Nat) (i : Nat) (hne : i ≠ b) : (w.freeze ⟨b, k, none⟩ 1).heap[i]? = w.heap[i]? := by
  unfold World.freeze
  rw [if_neg (by decide)]
  simp [Array.getElem?_modify, Ne.symm hne]
theorem freeze_same {w : World} {b k : Nat} {D : Array Value} {e : TypeId} {fr : Nat × Nat} (hb : w.heap[b]? = some (.cells D e fr)) : ∃ fr', (w.freeze ⟨b, k, none⟩ 1).heap[b]? = some (.cells D e fr') := by
  unfold World.freeze
  rw [if_neg (by decide)]
  simp [Array.getElem?_modify, hb]
theorem freeze_keep (w : World) (b k : Nat) : Keep (fun i => i = b) w (w.freeze ⟨b, k, none⟩ 1) := by
  refine ⟨?_, ?_, ?_, ?_, fun i hi hne => freeze_block w b k i hne⟩
  all_goals simp [World.freeze]
theorem freeze_cell {w : World} {b k : Nat} {D : Array Value} {e : TypeId} {fr : Nat × Nat} (hb : w.heap[b]? = some (.cells D e fr)) {i j : Nat} : (w.freeze ⟨b, k, none⟩ 1).cell? ⟨i, j, none⟩ = w.cell? ⟨i, j, none⟩ := by
  by_cases h : i = b
  · subst h
    obtain ⟨fr', h2⟩ := freeze_same (k := k) hb
    rw [cell_of_row _ _ _ _ e fr' h2, cell_of_row _ _ _ _ e fr hb]
  · unfold World.cell?
    rw [freeze_block w b k i h]
theorem freeze_seg {w : World} {b k : Nat} {D : Array Value} {e : TypeId} {fr : Nat × Nat} (hb : w.heap[b]? = some (.cells D e fr)) {a : Option Addr} {zs : List Int} (h : Seg w a zs) : Seg (w.freeze ⟨b, k, none⟩ 1) a zs := by
  intro hne
  obtain ⟨g, off, rfl, hc⟩ := h hne
  exact ⟨g, off, rfl, fun i hi => by rw [freeze_cell hb]; exact hc i hi⟩
theorem run_const {o : Oper} {a : Act} {w : World} (x : Operand) (b n c : Nat) (D : Array Value) (fr : Nat × Nat) (ho : o.op = .convert 24 24 x) (hx : a.eval x = .slice (some ⟨b, 0, none⟩) n c) (hb : w.heap[b]? = some (.cells D 5 fr)) :
    (execOp a.eval o).run Try.prog w = .ok (.value (.slice (some ⟨b, 0, none⟩) n c)) (w.freeze ⟨b, D.size, none⟩ 1) := by
  have hsh : w.shape? b = some (5, D.size) := by unfold World.shape?; rw [hb]
  unfold execOp
  simp only [ho, hx]
  simp [convert, run_underlying Try.underlying24, run_underlying Try.underlying5, markStringish, hsh]
theorem st_arr {o : Oper} {a : Act} {w : World} (x y : Operand) (g : Nat) (cs old : Array Value) (ho : o.op = .store 63 x y) (hx : a.eval x = .pointer (some ⟨g, 0, none⟩)) (hy : a.eval y = .agg cs) (hg : w.heap[g]? = some (.cells old 63 (0, 0))) (h2 : old.size = cs.size) (hi : (Try.prog.info? 63).map (·.size) = some cs.size) (h1 : cs.all (·.oneCell') = true) :
    (execOp a.eval o).run Try.prog w = .ok .skip (w.setRow g cs) := by
  have hl := run_storeVar_row (P := Try.prog) w g 63 63 old cs hg hi h2 h1
  unfold execOp
  simp only [ho, hx, hy, Instr.storeAt, Instr.sureAddr, Sem.run_bind, Sem.run_pure, Result.andThen_ok, hl]
theorem blk_q {w w' : World} {b : Nat} {o : Obj} (q : Q w w') (h : w.heap[b]? = some o) : w'.heap[b]? = some o := (Below.block q _ (lt_of_blk h)).trans h
theorem blk_ne {w : World} {b c : Nat} {D E : Array Value} {s t : TypeId} {f g : Nat × Nat} (h : w.heap[b]? = some (.cells D s f)) (k : w.heap[c]? = some (.cells E t g)) (hne : s ≠ t) : b ≠ c := by
  intro e
  subst e
  rw [h] at k
  cases k
  exact hne rfl
theorem q_freeze {w u : World} {b k : Nat} (q : Q w u) (hb : w.heap.size ≤ b) : Q w (u.freeze ⟨b, k, none⟩ 1) := (freeze_keep u b k).below q q.size (fun i e => by omega)
theorem q_set {w u : World} {b : Nat} {cs : Array Value} (q : Q w u) (hb : w.heap.size ≤ b) : Q w (u.setRow b cs) := ((Keep.refl (fun i => i = b) u).setRow b cs (.inl rfl)).below q q.size (fun i e => by omega)
def con0g0z (sb : Nat) (dd ds : List Int)  : List (Nat × Value) := [(2, .pointer (some ⟨sb, 0, none⟩)), (6, .pointer (some ⟨sb, 0, none⟩)), (3, .pointer (some ⟨sb, 0, none⟩)), (4, .pointer (some ⟨sb, 40, none⟩)), (5, .slice (some ⟨sb, 40, none⟩) 16 16)]
set_option maxHeartbeats 8000000 in
theorem con0g0 (sb : Nat) (dd ds : List Int)  {x1 x2 x3 x4 x5 x6 x7 x8 x9 x10 x11 x12 x13 x14 x15 x16 x17 : Value} (w : World) : Chn Try.prog (RofN Try.f51 0) (fun u => Q w u) (con0g0z sb dd ds ) (#[false, false, false, false, false, false, false, false, false, false, false, false] : Array Bool) (⟨#[.pointer (some ⟨sb, 0, none⟩), x1, x2, x3, x4, x5, x6, x7, x8, x9, x10, x11, x12, x13, x14, x15, x16, x17], []⟩ : Act) :=
  ⟨⟨by kernel_rfl, by kernel_rfl, by kernel_rfl, by kernel_rfl, fun u h => by kernel_rfl⟩,
    ⟨by kernel_rfl, by kernel_rfl, by kernel_rfl, by kernel_rfl, fun u h => by kernel_rfl⟩,
    ⟨by kernel_rfl, by kernel_rfl, by kernel_rfl, by kernel_rfl, fun u h => by kernel_rfl⟩,
    ⟨by kernel_rfl, by kernel_rfl, by kernel_rfl, by kernel_rfl, fun u h => by kernel_rfl⟩,
    ⟨by kernel_rfl, by kernel_rfl, by kernel_rfl, by kernel_rfl, fun u h => by kernel_rfl⟩,
    trivial⟩
set_option maxHeartbeats 16000000 in
theorem con0_0_1_7_8_9_10_11 (sb : Nat) (dd ds : List Int) (g0 : Nat) (g7 : Nat) (g8 : Nat)  (tb : Nat) {x1 x13 x14 x15 x16 x17 : Value} (w : World) (R : Exit → Act → World → Prop) (hQ : ∀ c a d v w, R (.panic c) (a.put d v) w → R (.panic c) a w) (hl : ds.length = 16) (HSU : ∀ u, Q w u → Calls Try.prog 69 #[.pointer (some ⟨sb, 0, none⟩)] u fun e w' => ∃ g, e = .returned (.slice (some ⟨g, 0, none⟩) 16 16) ∧ Q u w' ∧ Seg w' (some ⟨g, 0, none⟩) dd ∧ u.heap.size ≤ g)
    (HDG : ∀ u (g0 g7 g8 : Nat), Q w u → (∃ fr, u.heap[g0]? = some (.cells tApC 5 fr)) → Seg u (some ⟨g7, 0, none⟩) dd → u.heap[g8]? = some (.cells #[.slice (some ⟨g0, 0, none⟩) 11 11, .slice (some ⟨sb, 40, none⟩) 16 16, .slice (some ⟨g7, 0, none⟩) 16 16] 24 (0, 0)) → Calls Try.prog 68 #[.slice (some ⟨g8, 0, none⟩) 3 3] u fun e w' => e = .returned (.agg (u8s ds).toArray) ∧ Q u w')
    (h : ∀ (g0 g7 g8 tb : Nat) (u : World), Q w u → u.heap[tb]? = some (.cells (u8s ds).toArray 63 (0, 0)) → w.heap.size ≤ tb → R .normal (⟨#[.pointer (some ⟨sb, 0, none⟩), x1, .pointer (some ⟨tb, 0, none⟩), .slice (some ⟨g0, 0, none⟩) 11 11, .slice (some ⟨g0, 0, none⟩) 11 11, .pointer (some ⟨sb, 0, none⟩), .pointer (some ⟨sb, 0, none⟩), .pointer (some ⟨sb, 40, none⟩), .slice (some ⟨sb, 40, none⟩) 16 16, .pointer (some ⟨sb, 0, none⟩), .slice (some ⟨g7, 0, none⟩) 16 16, .slice (some ⟨g8, 0, none⟩) 3 3, .agg (u8s ds).toArray, x13, x14, x15, x16, x17], []⟩ : Act) u) (u : World) (hS : (fun u => Q w u) u) (n10 : w.heap.size ≤ tb) (d11 : u.heap[tb]? = some (.cells (u8s ds).toArray 63 (0, 0))) :
    wpAnyH Try.prog .any (RofN Try.f51 0) R (fun u => Q w u) 0 (#[true, true, true, true, true, true, true, true, true, true, true, true] : Array Bool) (⟨#[.pointer (some ⟨sb, 0, none⟩), x1, .pointer (some ⟨tb, 0, none⟩), .slice (some ⟨g0, 0, none⟩) 11 11, .slice (some ⟨g0, 0, none⟩) 11 11, .pointer (some ⟨sb, 0, none⟩), .pointer (some ⟨sb, 0, none⟩), .pointer (some ⟨sb, 40, none⟩), .slice (some ⟨sb, 40, none⟩) 16 16, .pointer (some ⟨sb, 0, none⟩), .slice (some ⟨g7, 0, none⟩) 16 16, .slice (some ⟨g8, 0, none⟩) 3 3, .agg (u8s ds).toArray, x13, x14, x15, x16, x17], []⟩ : Act) u := by
  refine wpAnyH_done (by kernel_rfl) ?_ _
  exact h g0 g7 g8 tb u hS d11 n10
set_option maxHeartbeats 16000000 in
theorem con0_0_1_7_8_9_10 (sb : Nat) (dd ds : List Int) (g0 : Nat) (g7 : Nat) (g8 : Nat)  (tb : Nat) {x1 x13 x14 x15 x16 x17 : Value} (w : World) (R : Exit → Act → World → Prop) (hQ : ∀ c a d v w, R (.panic c) (a.put d v) w → R (.panic c) a w) (hl : ds.length = 16) (HSU : ∀ u, Q w u → Calls Try.prog 69 #[.pointer (some ⟨sb, 0, none⟩)] u fun e w' => ∃ g, e = .returned (.slice (some ⟨g, 0, none⟩) 16 16) ∧ Q u w' ∧ Seg w' (some ⟨g, 0, none⟩) dd ∧ u.heap.size ≤ g)
    (HDG : ∀ u (g0 g7 g8 : Nat), Q w u → (∃ fr, u.heap[g0]? = some (.cells tApC 5 fr)) → Seg u (some ⟨g7, 0, none⟩) dd → u.heap[g8]? = some (.cells #[.slice (some ⟨g0, 0, none⟩) 11 11, .slice (some ⟨sb, 40, none⟩) 16 16, .slice (some ⟨g7, 0, none⟩) 16 16] 24 (0, 0)) → Calls Try.prog 68 #[.slice (some ⟨g8, 0, none⟩) 3 3] u fun e w' => e = .returned (.agg (u8s ds).toArray) ∧ Q u w')
    (h : ∀ (g0 g7 g8 tb : Nat) (u : World), Q w u → u.heap[tb]? = some (.cells (u8s ds).toArray 63 (0, 0)) → w.heap.size ≤ tb → R .normal (⟨#[.pointer (some ⟨sb, 0, none⟩), x1, .pointer (some ⟨tb, 0, none⟩), .slice (some ⟨g0, 0, none⟩) 11 11, .slice (some ⟨g0, 0, none⟩) 11 11, .pointer (some ⟨sb, 0, none⟩), .pointer (some ⟨sb, 0, none⟩), .pointer (some ⟨sb, 40, none⟩), .slice (some ⟨sb, 40, none⟩) 16 16, .pointer (some ⟨sb, 0, none⟩), .slice (some ⟨g7, 0, none⟩) 16 16, .slice (some ⟨g8, 0, none⟩) 3 3, .agg (u8s ds).toArray, x13, x14, x15, x16, x17], []⟩ : Act) u) (u : World) (hS : (fun u => Q w u) u) (c0 : ∃ fr, u.heap[g0]? = some (.cells tApC 5 fr)) (n0 : w.heap.size ≤ g0) (s7 : Seg u (some ⟨g7, 0, none⟩) dd) (b8 : u.heap[g8]? = some (.cells #[.slice (some ⟨g0, 0, none⟩) 11 11, .slice (some ⟨sb, 40, none⟩) 16 16, .slice (some ⟨g7, 0, none⟩) 16 16] 24 (0, 0))) (z10 : u.heap[tb]? = some (.cells z16 63 (0, 0))) (n10 : w.heap.size ≤ tb) :
    wpAnyH Try.prog .any (RofN Try.f51 0) R (fun u => Q w u) 1 (#[true, true, true, true, true, true, true, true, true, true, true, false] : Array Bool) (⟨#[.pointer (some ⟨sb, 0, none⟩), x1, .pointer (some ⟨tb, 0, none⟩), .slice (some ⟨g0, 0, none⟩) 11 11, .slice (some ⟨g0, 0, none⟩) 11 11, .pointer (some ⟨sb, 0, none⟩), .pointer (some ⟨sb, 0, none⟩), .pointer (some ⟨sb, 40, none⟩), .slice (some ⟨sb, 40, none⟩) 16 16, .pointer (some ⟨sb, 0, none⟩), .slice (some ⟨g7, 0, none⟩) 16 16, .slice (some ⟨g8, 0, none⟩) 3 3, .agg (u8s ds).toArray, x13, x14, x15, x16, x17], []⟩ : Act) u := by
  refine wpAnyH_one (i := 11) (by kernel_rfl) ?_
  have hc : (execOp (⟨#[.pointer (some ⟨sb, 0, none⟩), x1, .pointer (some ⟨tb, 0, none⟩), .slice (some ⟨g0, 0, none⟩) 11 11, .slice (some ⟨g0, 0, none⟩) 11 11, .pointer (some ⟨sb, 0, none⟩), .pointer (some ⟨sb, 0, none⟩), .pointer (some ⟨sb, 40, none⟩), .slice (some ⟨sb, 40, none⟩) 16 16, .pointer (some ⟨sb, 0, none⟩), .slice (some ⟨g7, 0, none⟩) 16 16, .slice (some ⟨g8, 0, none⟩) 3 3, .agg (u8s ds).toArray, x13, x14, x15, x16, x17], []⟩ : Act).eval (((RofN Try.f51 0)[11]?).getD default)).run Try.prog u = .ok .skip (u.setRow tb (u8s ds).toArray) := st_arr (.tmp 2) (.tmp 12) tb (u8s ds).toArray z16 (by kernel_rfl) (by kernel_rfl) (by kernel_rfl) z10 (by simp [hl]) (arr_info ds hl) (arr_one ds)
  refine wpOp_skip none (by kernel_rfl) (by kernel_rfl) (by kernel_rfl) hc ?_
  clear hc
  have hS1 : (fun u => Q w u) (u.setRow tb (u8s ds).toArray) := q_set hS n10
  refine ⟨hS1, ?_⟩
  have e1 : (⟨#[.pointer (some ⟨sb, 0, none⟩), x1, .pointer (some ⟨tb, 0, none⟩), .slice (some ⟨g0, 0, none⟩) 11 11, .slice (some ⟨g0, 0, none⟩) 11 11, .pointer (some ⟨sb, 0, none⟩), .pointer (some ⟨sb, 0, none⟩), .pointer (some ⟨sb, 40, none⟩), .slice (some ⟨sb, 40, none⟩) 16 16, .pointer (some ⟨sb, 0, none⟩), .slice (some ⟨g7, 0, none⟩) 16 16, .slice (some ⟨g8, 0, none⟩) 3 3, .agg (u8s ds).toArray, x13, x14, x15, x16, x17], []⟩ : Act).put none undef = (⟨#[.pointer (some ⟨sb, 0, none⟩), x1, .pointer (some ⟨tb, 0, none⟩), .slice (some ⟨g0, 0, none⟩) 11 11, .slice (some ⟨g0, 0, none⟩) 11 11, .pointer (some ⟨sb, 0, none⟩), .pointer (some ⟨sb, 0, none⟩), .pointer (some ⟨sb, 40, none⟩), .slice (some ⟨sb, 40, none⟩) 16 16, .pointer (some ⟨sb, 0, none⟩), .slice (some ⟨g7, 0, none⟩) 16 16, .slice (some ⟨g8, 0, none⟩) 3 3, .agg (u8s ds).toArray, x13, x14, x15, x16, x17], []⟩ : Act) := by kernel_rfl
  have l1 : (#[true, true, true, true, true, true, true, true, true, true, true, false] : Array Bool).setIfInBounds 11 true = (#[true, true, true, true, true, true, true, true, true, true, true, true] : Array Bool) := by kernel_rfl
  rw [e1, l1]
  clear e1 l1
  exact con0_0_1_7_8_9_10_11 sb dd ds g0 g7 g8 tb w R hQ hl HSU HDG h (u.setRow tb (u8s ds).toArray) hS1 (n10) (setRow_heap _ _ _ _ 63 _ z10)
set_option maxHeartbeats 16000000 in
theorem con0_0_1_7_8_10 (sb : Nat) (dd ds : List Int) (g0 : Nat) (g7 : Nat) (g8 : Nat) (tb : Nat) {x1 x12 x13 x14 x15 x16 x17 : Value} (w : World) (R : Exit → Act → World → Prop) (hQ : ∀ c a d v w, R (.panic c) (a.put d v) w → R (.panic c) a w) (hl : ds.length = 16) (HSU : ∀ u, Q w u → Calls Try.prog 69 #[.pointer (some ⟨sb, 0, none⟩)] u fun e w' => ∃ g, e = .returned (.slice (some ⟨g, 0, none⟩) 16 16) ∧ Q u w' ∧ Seg w' (some ⟨g, 0, none⟩) dd ∧ u.heap.size ≤ g)
    (HDG : ∀ u (g0 g7 g8 : Nat), Q w u → (∃ fr, u.heap[g0]? = some (.cells tApC 5 fr)) → Seg u (some ⟨g7, 0, none⟩) dd → u.heap[g8]? = some (.cells #[.slice (some ⟨g0, 0, none⟩) 11 11, .slice (some ⟨sb, 40, none⟩) 16 16, .slice (some ⟨g7, 0, none⟩) 16 16] 24 (0, 0)) → Calls Try.prog 68 #[.slice (some ⟨g8, 0, none⟩) 3 3] u fun e w' => e = .returned (.agg (u8s ds).toArray) ∧ Q u w')
    (h : ∀ (g0 g7 g8 tb : Nat) (u : World), Q w u → u.heap[tb]? = some (.cells (u8s ds).toArray 63 (0, 0)) → w.heap.size ≤ tb → R .normal (⟨#[.pointer (some ⟨sb, 0, none⟩), x1, .pointer (some ⟨tb, 0, none⟩), .slice (some ⟨g0, 0, none⟩) 11 11, .slice (some ⟨g0, 0, none⟩) 11 11, .pointer (some ⟨sb, 0, none⟩), .pointer (some ⟨sb, 0, none⟩), .pointer (some ⟨sb, 40, none⟩), .slice (some ⟨sb, 40, none⟩) 16 16, .pointer (some ⟨sb, 0, none⟩), .slice (some ⟨g7, 0, none⟩) 16 16, .slice (some ⟨g8, 0, none⟩) 3 3, .agg (u8s ds).toArray, x13, x14, x15, x16, x17], []⟩ : Act) u) (u : World) (hS : (fun u => Q w u) u) (c0 : ∃ fr, u.heap[g0]? = some (.cells tApC 5 fr)) (n0 : w.heap.size ≤ g0) (s7 : Seg u (some ⟨g7, 0, none⟩) dd) (b8 : u.heap[g8]? = some (.cells #[.slice (some ⟨g0, 0, none⟩) 11 11, .slice (some ⟨sb, 40, none⟩) 16 16, .slice (some ⟨g7, 0, none⟩) 16 16] 24 (0, 0))) (z10 : u.heap[tb]? = some (.cells z16 63 (0, 0))) (n10 : w.heap.size ≤ tb) :
    wpAnyH Try.prog .any (RofN Try.f51 0) R (fun u => Q w u) 2 (#[true, true, true, true, true, true, true, true, true, false, true, false] : Array Bool) (⟨#[.pointer (some ⟨sb, 0, none⟩), x1, .pointer (some ⟨tb, 0, none⟩), .slice (some ⟨g0, 0, none⟩) 11 11, .slice (some ⟨g0, 0, none⟩) 11 11, .pointer (some ⟨sb, 0, none⟩), .pointer (some ⟨sb, 0, none⟩), .pointer (some ⟨sb, 40, none⟩), .slice (some ⟨sb, 40, none⟩) 16 16, .pointer (some ⟨sb, 0, none⟩), .slice (some ⟨g7, 0, none⟩) 16 16, .slice (some ⟨g8, 0, none⟩) 3 3, x12, x13, x14, x15, x16, x17], []⟩ : Act) u := by
  refine wpAnyH_one (i := 9) (by kernel_rfl) ?_
  refine wpOp_callx (some 12) (by kernel_rfl) (by kernel_rfl) (by kernel_rfl) 68 #[.slice (some ⟨g8, 0, none⟩) 3 3] (by kernel_rfl) (HDG u g0 g7 g8 hS c0 s7 b8) ?_
  rintro e v ⟨rfl, q1⟩
  have q0 : Q u v := q1
  have hS1 : (fun u => Q w u) v := Q.trans hS q0
  refine ⟨_, rfl, hS1, ?_⟩
  have e1 : (⟨#[.pointer (some ⟨sb, 0, none⟩), x1, .pointer (some ⟨tb, 0, none⟩), .slice (some ⟨g0, 0, none⟩) 11 11, .slice (some ⟨g0, 0, none⟩) 11 11, .pointer (some ⟨sb, 0, none⟩), .pointer (some ⟨sb, 0, none⟩), .pointer (some ⟨sb, 40, none⟩), .slice (some ⟨sb, 40, none⟩) 16 16, .pointer (some ⟨sb, 0, none⟩), .slice (some ⟨g7, 0, none⟩) 16 16, .slice (some ⟨g8, 0, none⟩) 3 3, x12, x13, x14, x15, x16, x17], []⟩ : Act).put (some 12) (.agg (u8s ds).toArray) = (⟨#[.pointer (some ⟨sb, 0, none⟩), x1, .pointer (some ⟨tb, 0, none⟩), .slice (some ⟨g0, 0, none⟩) 11 11, .slice (some ⟨g0, 0, none⟩) 11 11, .pointer (some ⟨sb, 0, none⟩), .pointer (some ⟨sb, 0, none⟩), .pointer (some ⟨sb, 40, none⟩), .slice (some ⟨sb, 40, none⟩) 16 16, .pointer (some ⟨sb, 0, none⟩), .slice (some ⟨g7, 0, none⟩) 16 16, .slice (some ⟨g8, 0, none⟩) 3 3, .agg (u8s ds).toArray, x13, x14, x15, x16, x17], []⟩ : Act) := by kernel_rfl
  have l1 : (#[true, true, true, true, true, true, true, true, true, false, true, false] : Array Bool).setIfInBounds 9 true = (#[true, true, true, true, true, true, true, true, true, true, true, false] : Array Bool) := by kernel_rfl
  rw [e1, l1]
  clear e1 l1
  exact con0_0_1_7_8_9_10 sb dd ds g0 g7 g8 tb w R hQ hl HSU HDG h v hS1 (by obtain ⟨fr, c0⟩ := c0; exact ⟨fr, blk_q q0 c0⟩) (n0) (s7.q q0) (blk_q q0 b8) (blk_q q0 z10) (n10)
set_option maxHeartbeats 16000000 in
theorem con0_0_1_7_8_9 (sb : Nat) (dd ds : List Int) (g0 : Nat) (g7 : Nat) (g8 : Nat)  {x1 x2 x13 x14 x15 x16 x17 : Value} (w : World) (R : Exit → Act → World → Prop) (hQ : ∀ c a d v w, R (.panic c) (a.put d v) w → R (.panic c) a w) (hl : ds.length = 16) (HSU : ∀ u, Q w u → Calls Try.prog 69 #[.pointer (some ⟨sb, 0, none⟩)] u fun e w' => ∃ g, e = .returned (.slice (some ⟨g, 0, none⟩) 16 16) ∧ Q u w' ∧ Seg w' (some ⟨g, 0, none⟩) dd ∧ u.heap.size ≤ g)
    (HDG : ∀ u (g0 g7 g8 : Nat), Q w u → (∃ fr, u.heap[g0]? = some (.cells tApC 5 fr)) → Seg u (some ⟨g7, 0, none⟩) dd → u.heap[g8]? = some (.cells #[.slice (some ⟨g0, 0, none⟩) 11 11, .slice (some ⟨sb, 40, none⟩) 16 16, .slice (some ⟨g7, 0, none⟩) 16 16] 24 (0, 0)) → Calls Try.prog 68 #[.slice (some ⟨g8, 0, none⟩) 3 3] u fun e w' => e = .returned (.agg (u8s ds).toArray) ∧ Q u w')
    (h : ∀ (g0 g7 g8 tb : Nat) (u : World), Q w u → u.heap[tb]? = some (.cells (u8s ds).toArray 63 (0, 0)) → w.heap.size ≤ tb → R .normal (⟨#[.pointer (some ⟨sb, 0, none⟩), x1, .pointer (some ⟨tb, 0, none⟩), .slice (some ⟨g0, 0, none⟩) 11 11, .slice (some ⟨g0, 0, none⟩) 11 11, .pointer (some ⟨sb, 0, none⟩), .pointer (some ⟨sb, 0, none⟩), .pointer (some ⟨sb, 40, none⟩), .slice (some ⟨sb, 40, none⟩) 16 16, .pointer (some ⟨sb, 0, none⟩), .slice (some ⟨g7, 0, none⟩) 16 16, .slice (some ⟨g8, 0, none⟩) 3 3, .agg (u8s ds).toArray, x13, x14, x15, x16, x17], []⟩ : Act) u) (u : World) (hS : (fun u => Q w u) u) (c0 : ∃ fr, u.heap[g0]? = some (.cells tApC 5 fr)) (n0 : w.heap.size ≤ g0) (s7 : Seg u (some ⟨g7, 0, none⟩) dd) (b8 : u.heap[g8]? = some (.cells #[.slice (some ⟨g0, 0, none⟩) 11 11, .slice (some ⟨sb, 40, none⟩) 16 16, .slice (some ⟨g7, 0, none⟩) 16 16] 24 (0, 0))) :
    wpAnyH Try.prog .any (RofN Try.f51 0) R (fun u => Q w u) 2 (#[true, true, true, true, true, true, true, true, true, true, false, false] : Array Bool) (⟨#[.pointer (some ⟨sb, 0, none⟩), x1, x2, .slice (some ⟨g0, 0, none⟩) 11 11, .slice (some ⟨g0, 0, none⟩) 11 11, .pointer (some ⟨sb, 0, none⟩), .pointer (some ⟨sb, 0, none⟩), .pointer (some ⟨sb, 40, none⟩), .slice (some ⟨sb, 40, none⟩) 16 16, .pointer (some ⟨sb, 0, none⟩), .slice (some ⟨g7, 0, none⟩) 16 16, .slice (some ⟨g8, 0, none⟩) 3 3, .agg (u8s ds).toArray, x13, x14, x15, x16, x17], []⟩ : Act) u := by
  refine wpAnyH_one (i := 10) (by kernel_rfl) ?_
  refine wpOp_val (w' := u.alloc (.cells z16 63)) (v := .pointer (some ⟨u.heap.size, 0, none⟩)) (some 2) (by kernel_rfl) (by kernel_rfl) (by kernel_rfl) (by kernel_rfl) ?_
  have q0 : Q u (u.alloc (.cells z16 63)) := (Q.refl u).alloc _
  have hS1 : (fun u => Q w u) (u.alloc (.cells z16 63)) := Q.trans hS q0
  refine ⟨hS1, ?_⟩
  have e1 : (⟨#[.pointer (some ⟨sb, 0, none⟩), x1, x2, .slice (some ⟨g0, 0, none⟩) 11 11, .slice (some ⟨g0, 0, none⟩) 11 11, .pointer (some ⟨sb, 0, none⟩), .pointer (some ⟨sb, 0, none⟩), .pointer (some ⟨sb, 40, none⟩), .slice (some ⟨sb, 40, none⟩) 16 16, .pointer (some ⟨sb, 0, none⟩), .slice (some ⟨g7, 0, none⟩) 16 16, .slice (some ⟨g8, 0, none⟩) 3 3, .agg (u8s ds).toArray, x13, x14, x15, x16, x17], []⟩ : Act).put (some 2) (.pointer (some ⟨u.heap.size, 0, none⟩)) = (⟨#[.pointer (some ⟨sb, 0, none⟩), x1, .pointer (some ⟨u.heap.size, 0, none⟩), .slice (some ⟨g0, 0, none⟩) 11 11, .slice (some ⟨g0, 0, none⟩) 11 11, .pointer (some ⟨sb, 0, none⟩), .pointer (some ⟨sb, 0, none⟩), .pointer (some ⟨sb, 40, none⟩), .slice (some ⟨sb, 40, none⟩) 16 16, .pointer (some ⟨sb, 0, none⟩), .slice (some ⟨g7, 0, none⟩) 16 16, .slice (some ⟨g8, 0, none⟩) 3 3, .agg (u8s ds).toArray, x13, x14, x15, x16, x17], []⟩ : Act) := by kernel_rfl
  have l1 : (#[true, true, true, true, true, true, true, true, true, true, false, false] : Array Bool).setIfInBounds 10 true = (#[true, true, true, true, true, true, true, true, true, true, true, false] : Array Bool) := by kernel_rfl
  rw [e1, l1]
  clear e1 l1
  exact con0_0_1_7_8_9_10 sb dd ds g0 g7 g8 (u.heap.size) w R hQ hl HSU HDG h (u.alloc (.cells z16 63)) hS1 (by obtain ⟨fr, c0⟩ := c0; exact ⟨fr, blk_q q0 c0⟩) (n0) (s7.q q0) (blk_q q0 b8) (heap_alloc_new u _) (hS.size)
set_option maxHeartbeats 16000000 in
theorem con0_0_1_7_10 (sb : Nat) (dd ds : List Int) (g0 : Nat) (g7 : Nat) (tb : Nat) {x1 x11 x12 x13 x14 x15 x16 x17 : Value} (w : World) (R : Exit → Act → World → Prop) (hQ : ∀ c a d v w, R (.panic c) (a.put d v) w → R (.panic c) a w) (hl : ds.length = 16) (HSU : ∀ u, Q w u → Calls Try.prog 69 #[.pointer (some ⟨sb, 0, none⟩)] u fun e w' => ∃ g, e = .returned (.slice (some ⟨g, 0, none⟩) 16 16) ∧ Q u w' ∧ Seg w' (some ⟨g, 0, none⟩) dd ∧ u.heap.size ≤ g)
    (HDG : ∀ u (g0 g7 g8 : Nat), Q w u → (∃ fr, u.heap[g0]? = some (.cells tApC 5 fr)) → Seg u (some ⟨g7, 0, none⟩) dd → u.heap[g8]? = some (.cells #[.slice (some ⟨g0, 0, none⟩) 11 11, .slice (some ⟨sb, 40, none⟩) 16 16, .slice (some ⟨g7, 0, none⟩) 16 16] 24 (0, 0)) → Calls Try.prog 68 #[.slice (some ⟨g8, 0, none⟩) 3 3] u fun e w' => e = .returned (.agg (u8s ds).toArray) ∧ Q u w')
    (h : ∀ (g0 g7 g8 tb : Nat) (u : World), Q w u → u.heap[tb]? = some (.cells (u8s ds).toArray 63 (0, 0)) → w.heap.size ≤ tb → R .normal (⟨#[.pointer (some ⟨sb, 0, none⟩), x1, .pointer (some ⟨tb, 0, none⟩), .slice (some ⟨g0, 0, none⟩) 11 11, .slice (some ⟨g0, 0, none⟩) 11 11, .pointer (some ⟨sb, 0, none⟩), .pointer (some ⟨sb, 0, none⟩), .pointer (some ⟨sb, 40, none⟩), .slice (some ⟨sb, 40, none⟩) 16 16, .pointer (some ⟨sb, 0, none⟩), .slice (some ⟨g7, 0, none⟩) 16 16, .slice (some ⟨g8, 0, none⟩) 3 3, .agg (u8s ds).toArray, x13, x14, x15, x16, x17], []⟩ : Act) u) (u : World) (hS : (fun u => Q w u) u) (c0 : ∃ fr, u.heap[g0]? = some (.cells tApC 5 fr)) (n0 : w.heap.size ≤ g0) (s7 : Seg u (some ⟨g7, 0, none⟩) dd) (z10 : u.heap[tb]? = some (.cells z16 63 (0, 0))) (n10 : w.heap.size ≤ tb) :
    wpAnyH Try.prog .any (RofN Try.f51 0) R (fun u => Q w u) 3 (#[true, true, true, true, true, true, true, true, false, false, true, false] : Array Bool) (⟨#[.pointer (some ⟨sb, 0, none⟩), x1, .pointer (some ⟨tb, 0, none⟩), .slice (some ⟨g0, 0, none⟩) 11 11, .slice (some ⟨g0, 0, none⟩) 11 11, .pointer (some ⟨sb, 0, none⟩), .pointer (some ⟨sb, 0, none⟩), .pointer (some ⟨sb, 40, none⟩), .slice (some ⟨sb, 40, none⟩) 16 16, .pointer (some ⟨sb, 0, none⟩), .slice (some ⟨g7, 0, none⟩) 16 16, x11, x12, x13, x14, x15, x16, x17], []⟩ : Act) u := by
  refine wpAnyH_one (i := 8) (by kernel_rfl) ?_
  refine wpOp_val (w' := u.alloc (.cells #[.slice (some ⟨g0, 0, none⟩) 11 11, .slice (some ⟨sb, 40, none⟩) 16 16, .slice (some ⟨g7, 0, none⟩) 16 16] 24)) (v := .slice (some ⟨u.heap.size, 0, none⟩) 3 3) (some 11) (by kernel_rfl) (by kernel_rfl) (by kernel_rfl) (by kernel_rfl) ?_
  have q0 : Q u (u.alloc (.cells #[.slice (some ⟨g0, 0, none⟩) 11 11, .slice (some ⟨sb, 40, none⟩) 16 16, .slice (some ⟨g7, 0, none⟩) 16 16] 24)) := (Q.refl u).alloc _
  have hS1 : (fun u => Q w u) (u.alloc (.cells #[.slice (some ⟨g0, 0, none⟩) 11 11, .slice (some ⟨sb, 40, none⟩) 16 16, .slice (some ⟨g7, 0, none⟩) 16 16] 24)) := Q.trans hS q0
  refine ⟨hS1, ?_⟩
  have e1 : (⟨#[.pointer (some ⟨sb, 0, none⟩), x1, .pointer (some ⟨tb, 0, none⟩), .slice (some ⟨g0, 0, none⟩) 11 11, .slice (some ⟨g0, 0, none⟩) 11 11, .pointer (some ⟨sb, 0, none⟩), .pointer (some ⟨sb, 0, none⟩), .pointer (some ⟨sb, 40, none⟩), .slice (some ⟨sb, 40, none⟩) 16 16, .pointer (some ⟨sb, 0, none⟩), .slice (some ⟨g7, 0, none⟩) 16 16, x11, x12, x13, x14, x15, x16, x17], []⟩ : Act).put (some 11) (.slice (some ⟨u.heap.size, 0, none⟩) 3 3) = (⟨#[.pointer (some ⟨sb, 0, none⟩), x1, .pointer (some ⟨tb, 0, none⟩), .slice (some ⟨g0, 0, none⟩) 11 11, .slice (some ⟨g0, 0, none⟩) 11 11, .pointer (some ⟨sb, 0, none⟩), .pointer (some ⟨sb, 0, none⟩), .pointer (some ⟨sb, 40, none⟩), .slice (some ⟨sb, 40, none⟩) 16 16, .pointer (some ⟨sb, 0, none⟩), .slice (some ⟨g7, 0, none⟩) 16 16, .slice (some ⟨u.heap.size, 0, none⟩) 3 3, x12, x13, x14, x15, x16, x17], []⟩ : Act) := by kernel_rfl
  have l1 : (#[true, true, true, true, true, true, true, true, false, false, true, false] : Array Bool).setIfInBounds 8 true = (#[true, true, true, true, true, true, true, true, true, false, true, false] : Array Bool) := by kernel_rfl
  rw [e1, l1]
  clear e1 l1
  exact con0_0_1_7_8_10 sb dd ds g0 g7 (u.heap.size) tb w R hQ hl HSU HDG h (u.alloc (.cells #[.slice (some ⟨g0, 0, none⟩) 11 11, .slice (some ⟨sb, 40, none⟩) 16 16, .slice (some ⟨g7, 0, none⟩) 16 16] 24)) hS1 (by obtain ⟨fr, c0⟩ := c0; exact ⟨fr, blk_q q0 c0⟩) (n0) (s7.q q0) (heap_alloc_new u _) (blk_q q0 z10) (n10)
set_option maxHeartbeats 16000000 in
theorem con0_0_1_7_8 (sb : Nat) (dd ds : List Int) (g0 : Nat) (g7 : Nat) (g8 : Nat) {x1 x2 x12 x13 x14 x15 x16 x17 : Value} (w : World) (R : Exit → Act → World → Prop) (hQ : ∀ c a d v w, R (.panic c) (a.put d v) w → R (.panic c) a w) (hl : ds.length = 16) (HSU : ∀ u, Q w u → Calls Try.prog 69 #[.pointer (some ⟨sb, 0, none⟩)] u fun e w' => ∃ g, e = .returned (.slice (some ⟨g, 0, none⟩) 16 16) ∧ Q u w' ∧ Seg w' (some ⟨g, 0, none⟩) dd ∧ u.heap.size ≤ g)
    (HDG : ∀ u (g0 g7 g8 : Nat), Q w u → (∃ fr, u.heap[g0]? = some (.cells tApC 5 fr)) → Seg u (some ⟨g7, 0, none⟩) dd → u.heap[g8]? = some (.cells #[.slice (some ⟨g0, 0, none⟩) 11 11, .slice (some ⟨sb, 40, none⟩) 16 16, .slice (some ⟨g7, 0, none⟩) 16 16] 24 (0, 0)) → Calls Try.prog 68 #[.slice (some ⟨g8, 0, none⟩) 3 3] u fun e w' => e = .returned (.agg (u8s ds).toArray) ∧ Q u w')
    (h : ∀ (g0 g7 g8 tb : Nat) (u : World), Q w u → u.heap[tb]? = some (.cells (u8s ds).toArray 63 (0, 0)) → w.heap.size ≤ tb → R .normal (⟨#[.pointer (some ⟨sb, 0, none⟩), x1, .pointer (some ⟨tb, 0, none⟩), .slice (some ⟨g0, 0, none⟩) 11 11, .slice (some ⟨g0, 0, none⟩) 11 11, .pointer (some ⟨sb, 0, none⟩), .pointer (some ⟨sb, 0, none⟩), .pointer (some ⟨sb, 40, none⟩), .slice (some ⟨sb, 40, none⟩) 16 16, .pointer (some ⟨sb, 0, none⟩), .slice (some ⟨g7, 0, none⟩) 16 16, .slice (some ⟨g8, 0, none⟩) 3 3, .agg (u8s ds).toArray, x13, x14, x15, x16, x17], []⟩ : Act) u) (u : World) (hS : (fun u => Q w u) u) (c0 : ∃ fr, u.heap[g0]? = some (.cells tApC 5 fr)) (n0 : w.heap.size ≤ g0) (s7 : Seg u (some ⟨g7, 0, none⟩) dd) (b8 : u.heap[g8]? = some (.cells #[.slice (some ⟨g0, 0, none⟩) 11 11, .slice (some ⟨sb, 40, none⟩) 16 16, .slice (some ⟨g7, 0, none⟩) 16 16] 24 (0, 0))) :
    wpAnyH Try.prog .any (RofN Try.f51 0) R (fun u => Q w u) 3 (#[true, true, true, true, true, true, true, true, true, false, false, false] : Array Bool) (⟨#[.pointer (some ⟨sb, 0, none⟩), x1, x2, .slice (some ⟨g0, 0, none⟩) 11 11, .slice (some ⟨g0, 0, none⟩) 11 11, .pointer (some ⟨sb, 0, none⟩), .pointer (some ⟨sb, 0, none⟩), .pointer (some ⟨sb, 40, none⟩), .slice (some ⟨sb, 40, none⟩) 16 16, .pointer (some ⟨sb, 0, none⟩), .slice (some ⟨g7, 0, none⟩) 16 16, .slice (some ⟨g8, 0, none⟩) 3 3, x12, x13, x14, x15, x16, x17], []⟩ : Act) u := by
  refine wpAnyH_l2 (i := 9) (j := 10) (by kernel_rfl) ?_ ?_
  · refine wpOp_callx (some 12) (by kernel_rfl) (by kernel_rfl) (by kernel_rfl) 68 #[.slice (some ⟨g8, 0, none⟩) 3 3] (by kernel_rfl) (HDG u g0 g7 g8 hS c0 s7 b8) ?_
    rintro e v ⟨rfl, q1⟩
    have q0 : Q u v := q1
    have hS1 : (fun u => Q w u) v := Q.trans hS q0
    refine ⟨_, rfl, hS1, ?_⟩
    have e1 : (⟨#[.pointer (some ⟨sb, 0, none⟩), x1, x2, .slice (some ⟨g0, 0, none⟩) 11 11, .slice (some ⟨g0, 0, none⟩) 11 11, .pointer (some ⟨sb, 0, none⟩), .pointer (some ⟨sb, 0, none⟩), .pointer (some ⟨sb, 40, none⟩), .slice (some ⟨sb, 40, none⟩) 16 16, .pointer (some ⟨sb, 0, none⟩), .slice (some ⟨g7, 0, none⟩) 16 16, .slice (some ⟨g8, 0, none⟩) 3 3, x12, x13, x14, x15, x16, x17], []⟩ : Act).put (some 12) (.agg (u8s ds).toArray) = (⟨#[.pointer (some ⟨sb, 0, none⟩), x1, x2, .slice (some ⟨g0, 0, none⟩) 11 11, .slice (some ⟨g0, 0, none⟩) 11 11, .pointer (some ⟨sb, 0, none⟩), .pointer (some ⟨sb, 0, none⟩), .pointer (some ⟨sb, 40, none⟩), .slice (some ⟨sb, 40, none⟩) 16 16, .pointer (some ⟨sb, 0, none⟩), .slice (some ⟨g7, 0, none⟩) 16 16, .slice (some ⟨g8, 0, none⟩) 3 3, .agg (u8s ds).toArray, x13, x14, x15, x16, x17], []⟩ : Act) := by kernel_rfl
    have l1 : (#[true, true, true, true, true, true, true, true, true, false, false, false] : Array Bool).setIfInBounds 9 true = (#[true, true, true, true, true, true, true, true, true, true, false, false] : Array Bool) := by kernel_rfl
    rw [e1, l1]
    clear e1 l1
    exact con0_0_1_7_8_9 sb dd ds g0 g7 g8 w R hQ hl HSU HDG h v hS1 (by obtain ⟨fr, c0⟩ := c0; exact ⟨fr, blk_q q0 c0⟩) (n0) (s7.q q0) (blk_q q0 b8)
  · refine wpOp_val (w' := u.alloc (.cells z16 63)) (v := .pointer (some ⟨u.heap.size, 0, none⟩)) (some 2) (by kernel_rfl) (by kernel_rfl) (by kernel_rfl) (by kernel_rfl) ?_
    have q0 : Q u (u.alloc (.cells z16 63)) := (Q.refl u).alloc _
    have hS1 : (fun u => Q w u) (u.alloc (.cells z16 63)) := Q.trans hS q0
    refine ⟨hS1, ?_⟩
    have e1 : (⟨#[.pointer (some ⟨sb, 0, none⟩), x1, x2, .slice (some ⟨g0, 0, none⟩) 11 11, .slice (some ⟨g0, 0, none⟩) 11 11, .pointer (some ⟨sb, 0, none⟩), .pointer (some ⟨sb, 0, none⟩), .pointer (some ⟨sb, 40, none⟩), .slice (some ⟨sb, 40, none⟩) 16 16, .pointer (some ⟨sb, 0, none⟩), .slice (some ⟨g7, 0, none⟩) 16 16, .slice (some ⟨g8, 0, none⟩) 3 3, x12, x13, x14, x15, x16, x17], []⟩ : Act).put (some 2) (.pointer (some ⟨u.heap.size, 0, none⟩)) = (⟨#[.pointer (some ⟨sb, 0, none⟩), x1, .pointer (some ⟨u.heap.size, 0, none⟩), .slice (some ⟨g0, 0, none⟩) 11 11, .slice (some ⟨g0, 0, none⟩) 11 11, .pointer (some ⟨sb, 0, none⟩), .pointer (some ⟨sb, 0, none⟩), .pointer (some ⟨sb, 40, none⟩), .slice (some ⟨sb, 40, none⟩) 16 16, .pointer (some ⟨sb, 0, none⟩), .slice (some ⟨g7, 0, none⟩) 16 16, .slice (some ⟨g8, 0, none⟩) 3 3, x12, x13, x14, x15, x16, x17], []⟩ : Act) := by kernel_rfl
    have l1 : (#[true, true, true, true, true, true, true, true, true, false, false, false] : Array Bool).setIfInBounds 10 true = (#[true, true, true, true, true, true, true, true, true, false, true, false] : Array Bool) := by kernel_rfl
    rw [e1, l1]
    clear e1 l1
    exact con0_0_1_7_8_10 sb dd ds g0 g7 g8 (u.heap.size) w R hQ hl HSU HDG h (u.alloc (.cells z16 63)) hS1 (by obtain ⟨fr, c0⟩ := c0; exact ⟨fr, blk_q q0 c0⟩) (n0) (s7.q q0) (blk_q q0 b8) (heap_alloc_new u _) (hS.size)
set_option maxHeartbeats 16000000 in
theorem con0_0_7_10 (sb : Nat) (dd ds : List Int) (g0 : Nat) (g7 : Nat) (tb : Nat) {x1 x4 x11 x12 x13 x14 x15 x16 x17 : Value} (w : World) (R : Exit → Act → World → Prop) (hQ : ∀ c a d v w, R (.panic c) (a.put d v) w → R (.panic c) a w) (hl : ds.length = 16) (HSU : ∀ u, Q w u → Calls Try.prog 69 #[.pointer (some ⟨sb, 0, none⟩)] u fun e w' => ∃ g, e = .returned (.slice (some ⟨g, 0, none⟩) 16 16) ∧ Q u w' ∧ Seg w' (some ⟨g, 0, none⟩) dd ∧ u.heap.size ≤ g)
    (HDG : ∀ u (g0 g7 g8 : Nat), Q w u → (∃ fr, u.heap[g0]? = some (.cells tApC 5 fr)) → Seg u (some ⟨g7, 0, none⟩) dd → u.heap[g8]? = some (.cells #[.slice (some ⟨g0, 0, none⟩) 11 11, .slice (some ⟨sb, 40, none⟩) 16 16, .slice (some ⟨g7, 0, none⟩) 16 16] 24 (0, 0)) → Calls Try.prog 68 #[.slice (some ⟨g8, 0, none⟩) 3 3] u fun e w' => e = .returned (.agg (u8s ds).toArray) ∧ Q u w')
    (h : ∀ (g0 g7 g8 tb : Nat) (u : World), Q w u → u.heap[tb]? = some (.cells (u8s ds).toArray 63 (0, 0)) → w.heap.size ≤ tb → R .normal (⟨#[.pointer (some ⟨sb, 0, none⟩), x1, .pointer (some ⟨tb, 0, none⟩), .slice (some ⟨g0, 0, none⟩) 11 11, .slice (some ⟨g0, 0, none⟩) 11 11, .pointer (some ⟨sb, 0, none⟩), .pointer (some ⟨sb, 0, none⟩), .pointer (some ⟨sb, 40, none⟩), .slice (some ⟨sb, 40, none⟩) 16 16, .pointer (some ⟨sb, 0, none⟩), .slice (some ⟨g7, 0, none⟩) 16 16, .slice (some ⟨g8, 0, none⟩) 3 3, .agg (u8s ds).toArray, x13, x14, x15, x16, x17], []⟩ : Act) u) (u : World) (hS : (fun u => Q w u) u) (c0 : ∃ fr, u.heap[g0]? = some (.cells tApC 5 fr)) (n0 : w.heap.size ≤ g0) (s7 : Seg u (some ⟨g7, 0, none⟩) dd) (z10 : u.heap[tb]? = some (.cells z16 63 (0, 0))) (n10 : w.heap.size ≤ tb) :
    wpAnyH Try.prog .any (RofN Try.f51 0) R (fun u => Q w u) 4 (#[true, false, true, true, true, true, true, true, false, false, true, false] : Array Bool) (⟨#[.pointer (some ⟨sb, 0, none⟩), x1, .pointer (some ⟨tb, 0, none⟩), .slice (some ⟨g0, 0, none⟩) 11 11, x4, .pointer (some ⟨sb, 0, none⟩), .pointer (some ⟨sb, 0, none⟩), .pointer (some ⟨sb, 40, none⟩), .slice (some ⟨sb, 40, none⟩) 16 16, .pointer (some ⟨sb, 0, none⟩), .slice (some ⟨g7, 0, none⟩) 16 16, x11, x12, x13, x14, x15, x16, x17], []⟩ : Act) u := by
  refine wpAnyH_one (i := 1) (by kernel_rfl) ?_
  have hc : (execOp (⟨#[.pointer (some ⟨sb, 0, none⟩), x1, .pointer (some ⟨tb, 0, none⟩), .slice (some ⟨g0, 0, none⟩) 11 11, x4, .pointer (some ⟨sb, 0, none⟩), .pointer (some ⟨sb, 0, none⟩), .pointer (some ⟨sb, 40, none⟩), .slice (some ⟨sb, 40, none⟩) 16 16, .pointer (some ⟨sb, 0, none⟩), .slice (some ⟨g7, 0, none⟩) 16 16, x11, x12, x13, x14, x15, x16, x17], []⟩ : Act).eval (((RofN Try.f51 0)[1]?).getD default)).run Try.prog u = .ok (.value (.slice (some ⟨g0, 0, none⟩) 11 11)) (u.freeze ⟨g0, 11, none⟩ 1) := (by obtain ⟨fr, c0⟩ := c0; exact run_const (.tmp 3) g0 11 11 tApC fr (by kernel_rfl) (by kernel_rfl) c0)
  refine wpOp_val (some 4) (by kernel_rfl) (by kernel_rfl) (by kernel_rfl) hc ?_
  clear hc
  have hS1 : (fun u => Q w u) (u.freeze ⟨g0, 11, none⟩ 1) := q_freeze hS n0
  refine ⟨hS1, ?_⟩
  have e1 : (⟨#[.pointer (some ⟨sb, 0, none⟩), x1, .pointer (some ⟨tb, 0, none⟩), .slice (some ⟨g0, 0, none⟩) 11 11, x4, .pointer (some ⟨sb, 0, none⟩), .pointer (some ⟨sb, 0, none⟩), .pointer (some ⟨sb, 40, none⟩), .slice (some ⟨sb, 40, none⟩) 16 16, .pointer (some ⟨sb, 0, none⟩), .slice (some ⟨g7, 0, none⟩) 16 16, x11, x12, x13, x14, x15, x16, x17], []⟩ : Act).put (some 4) (.slice (some ⟨g0, 0, none⟩) 11 11) = (⟨#[.pointer (some ⟨sb, 0, none⟩), x1, .pointer (some ⟨tb, 0, none⟩), .slice (some ⟨g0, 0, none⟩) 11 11, .slice (some ⟨g0, 0, none⟩) 11 11, .pointer (some ⟨sb, 0, none⟩), .pointer (some ⟨sb, 0, none⟩), .pointer (some ⟨sb, 40, none⟩), .slice (some ⟨sb, 40, none⟩) 16 16, .pointer (some ⟨sb, 0, none⟩), .slice (some ⟨g7, 0, none⟩) 16 16, x11, x12, x13, x14, x15, x16, x17], []⟩ : Act) := by kernel_rfl
  have l1 : (#[true, false, true, true, true, true, true, true, false, false, true, false] : Array Bool).setIfInBounds 1 true = (#[true, true, true, true, true, true, true, true, false, false, true, false] : Array Bool) := by kernel_rfl
  rw [e1, l1]
  clear e1 l1
  exact con0_0_1_7_10 sb dd ds g0 g7 tb w R hQ hl HSU HDG h (u.freeze ⟨g0, 11, none⟩ 1) hS1 (by obtain ⟨fr, c0⟩ := c0; exact freeze_same c0) (n0) (by obtain ⟨fr, c0⟩ := c0; exact freeze_seg c0 s7) (by obtain ⟨fr, c0⟩ := c0; exact (freeze_block _ _ _ _ (blk_ne z10 c0 (by decide))).trans z10) (n10)
set_option maxHeartbeats 16000000 in
theorem con0_0_1_10 (sb : Nat) (dd ds : List Int) (g0 : Nat) (tb : Nat) {x1 x10 x11 x12 x13 x14 x15 x16 x17 : Value} (w : World) (R : Exit → Act → World → Prop) (hQ : ∀ c a d v w, R (.panic c) (a.put d v) w → R (.panic c) a w) (hl : ds.length = 16) (HSU : ∀ u, Q w u → Calls Try.prog 69 #[.pointer (some ⟨sb, 0, none⟩)] u fun e w' => ∃ g, e = .returned (.slice (some ⟨g, 0, none⟩) 16 16) ∧ Q u w' ∧ Seg w' (some ⟨g, 0, none⟩) dd ∧ u.heap.size ≤ g)
    (HDG : ∀ u (g0 g7 g8 : Nat), Q w u → (∃ fr, u.heap[g0]? = some (.cells tApC 5 fr)) → Seg u (some ⟨g7, 0, none⟩) dd → u.heap[g8]? = some (.cells #[.slice (some ⟨g0, 0, none⟩) 11 11, .slice (some ⟨sb, 40, none⟩) 16 16, .slice (some ⟨g7, 0, none⟩) 16 16] 24 (0, 0)) → Calls Try.prog 68 #[.slice (some ⟨g8, 0, none⟩) 3 3] u fun e w' => e = .returned (.agg (u8s ds).toArray) ∧ Q u w')
    (h : ∀ (g0 g7 g8 tb : Nat) (u : World), Q w u → u.heap[tb]? = some (.cells (u8s ds).toArray 63 (0, 0)) → w.heap.size ≤ tb → R .normal (⟨#[.pointer (some ⟨sb, 0, none⟩), x1, .pointer (some ⟨tb, 0, none⟩), .slice (some ⟨g0, 0, none⟩) 11 11, .slice (some ⟨g0, 0, none⟩) 11 11, .pointer (some ⟨sb, 0, none⟩), .pointer (some ⟨sb, 0, none⟩), .pointer (some ⟨sb, 40, none⟩), .slice (some ⟨sb, 40, none⟩) 16 16, .pointer (some ⟨sb, 0, none⟩), .slice (some ⟨g7, 0, none⟩) 16 16, .slice (some ⟨g8, 0, none⟩) 3 3, .agg (u8s ds).toArray, x13, x14, x15, x16, x17], []⟩ : Act) u) (u : World) (hS : (fun u => Q w u) u) (c0 : ∃ fr, u.heap[g0]? = some (.cells tApC 5 fr)) (n0 : w.heap.size ≤ g0) (z10 : u.heap[tb]? = some (.cells z16 63 (0, 0))) (n10 : w.heap.size ≤ tb) :
    wpAnyH Try.prog .any (RofN Try.f51 0) R (fun u => Q w u) 4 (#[true, true, true, true, true, true, true, false, false, false, true, false] : Array Bool) (⟨#[.pointer (some ⟨sb, 0, none⟩), x1, .pointer (some ⟨tb, 0, none⟩), .slice (some ⟨g0, 0, none⟩) 11 11, .slice (some ⟨g0, 0, none⟩) 11 11, .pointer (some ⟨sb, 0, none⟩), .pointer (some ⟨sb, 0, none⟩), .pointer (some ⟨sb, 40, none⟩), .slice (some ⟨sb, 40, none⟩) 16 16, .pointer (some ⟨sb, 0, none⟩), x10, x11, x12, x13, x14, x15, x16, x17], []⟩ : Act) u := by
  refine wpAnyH_one (i := 7) (by kernel_rfl) ?_
  refine wpOp_callx (some 10) (by kernel_rfl) (by kernel_rfl) (by kernel_rfl) 69 #[.pointer (some ⟨sb, 0, none⟩)] (by kernel_rfl) (HSU u hS) ?_
  rintro e v ⟨g7, rfl, q1, s7, _⟩
  have q0 : Q u v := q1
  have hS1 : (fun u => Q w u) v := Q.trans hS q0
  refine ⟨_, rfl, hS1, ?_⟩
  have e1 : (⟨#[.pointer (some ⟨sb, 0, none⟩), x1, .pointer (some ⟨tb, 0, none⟩), .slice (some ⟨g0, 0, none⟩) 11 11, .slice (some ⟨g0, 0, none⟩) 11 11, .pointer (some ⟨sb, 0, none⟩), .pointer (some ⟨sb, 0, none⟩), .pointer (some ⟨sb, 40, none⟩), .slice (some ⟨sb, 40, none⟩) 16 16, .pointer (some ⟨sb, 0, none⟩), x10, x11, x12, x13, x14, x15, x16, x17], []⟩ : Act).put (some 10) (.slice (some ⟨g7, 0, none⟩) 16 16) = (⟨#[.pointer (some ⟨sb, 0, none⟩), x1, .pointer (some ⟨tb, 0, none⟩), .slice (some ⟨g0, 0, none⟩) 11 11, .slice (some ⟨g0, 0, none⟩) 11 11, .pointer (some ⟨sb, 0, none⟩), .pointer (some ⟨sb, 0, none⟩), .pointer (some ⟨sb, 40, none⟩), .slice (some ⟨sb, 40, none⟩) 16 16, .pointer (some ⟨sb, 0, none⟩), .slice (some ⟨g7, 0, none⟩) 16 16, x11, x12, x13, x14, x15, x16, x17], []⟩ : Act) := by kernel_rfl
  have l1 : (#[true, true, true, true, true, true, true, false, false, false, true, false] : Array Bool).setIfInBounds 7 true = (#[true, true, true, true, true, true, true, true, false, false, true, false] : Array Bool) := by kernel_rfl
  rw [e1, l1]
  clear e1 l1
  exact con0_0_1_7_10 sb dd ds g0 g7 tb w R hQ hl HSU HDG h v hS1 (by obtain ⟨fr, c0⟩ := c0; exact ⟨fr, blk_q q0 c0⟩) (n0) (s7) (blk_q q0 z10) (n10)
set_option maxHeartbeats 16000000 in
theorem con0_0_1_7 (sb : Nat) (dd ds : List Int) (g0 : Nat) (g7 : Nat) {x1 x2 x11 x12 x13 x14 x15 x16 x17 : Value} (w : World) (R : Exit → Act → World → Prop) (hQ : ∀ c a d v w, R (.panic c) (a.put d v) w → R (.panic c) a w) (hl : ds.length = 16) (HSU : ∀ u, Q w u → Calls Try.prog 69 #[.pointer (some ⟨sb, 0, none⟩)] u fun e w' => ∃ g, e = .returned (.slice (some ⟨g, 0, none⟩) 16 16) ∧ Q u w' ∧ Seg w' (some ⟨g, 0, none⟩) dd ∧ u.heap.size ≤ g)
    (HDG : ∀ u (g0 g7 g8 : Nat), Q w u → (∃ fr, u.heap[g0]? = some (.cells tApC 5 fr)) → Seg u (some ⟨g7, 0, none⟩) dd → u.heap[g8]? = some (.cells #[.slice (some ⟨g0, 0, none⟩) 11 11, .slice (some ⟨sb, 40, none⟩) 16 16, .slice (some ⟨g7, 0, none⟩) 16 16] 24 (0, 0)) → Calls Try.prog 68 #[.slice (some ⟨g8, 0, none⟩) 3 3] u fun e w' => e = .returned (.agg (u8s ds).toArray) ∧ Q u w')
    (h : ∀ (g0 g7 g8 tb : Nat) (u : World), Q w u → u.heap[tb]? = some (.cells (u8s ds).toArray 63 (0, 0)) → w.heap.size ≤ tb → R .normal (⟨#[.pointer (some ⟨sb, 0, none⟩), x1, .pointer (some ⟨tb, 0, none⟩), .slice (some ⟨g0, 0, none⟩) 11 11, .slice (some ⟨g0, 0, none⟩) 11 11, .pointer (some ⟨sb, 0, none⟩), .pointer (some ⟨sb, 0, none⟩), .pointer (some ⟨sb, 40, none⟩), .slice (some ⟨sb, 40, none⟩) 16 16, .pointer (some ⟨sb, 0, none⟩), .slice (some ⟨g7, 0, none⟩) 16 16, .slice (some ⟨g8, 0, none⟩) 3 3, .agg (u8s ds).toArray, x13, x14, x15, x16, x17], []⟩ : Act) u) (u : World) (hS : (fun u => Q w u) u) (c0 : ∃ fr, u.heap[g0]? = some (.cells tApC 5 fr)) (n0 : w.heap.size ≤ g0) (s7 : Seg u (some ⟨g7, 0, none⟩) dd) :
    wpAnyH Try.prog .any (RofN Try.f51 0) R (fun u => Q w u) 4 (#[true, true, true, true, true, true, true, true, false, false, false, false] : Array Bool) (⟨#[.pointer (some ⟨sb, 0, none⟩), x1, x2, .slice (some ⟨g0, 0, none⟩) 11 11, .slice (some ⟨g0, 0, none⟩) 11 11, .pointer (some ⟨sb, 0, none⟩), .pointer (some ⟨sb, 0, none⟩), .pointer (some ⟨sb, 40, none⟩), .slice (some ⟨sb, 40, none⟩) 16 16, .pointer (some ⟨sb, 0, none⟩), .slice (some ⟨g7, 0, none⟩) 16 16, x11, x12, x13, x14, x15, x16, x17], []⟩ : Act) u := by
  refine wpAnyH_l2 (i := 8) (j := 10) (by kernel_rfl) ?_ ?_
  · refine wpOp_val (w' := u.alloc (.cells #[.slice (some ⟨g0, 0, none⟩) 11 11, .slice (some ⟨sb, 40, none⟩) 16 16, .slice (some ⟨g7, 0, none⟩) 16 16] 24)) (v := .slice (some ⟨u.heap.size, 0, none⟩) 3 3) (some 11) (by kernel_rfl) (by kernel_rfl) (by kernel_rfl) (by kernel_rfl) ?_
    have q0 : Q u (u.alloc (.cells #[.slice (some ⟨g0, 0, none⟩) 11 11, .slice (some ⟨sb, 40, none⟩) 16 16, .slice (some ⟨g7, 0, none⟩) 16 16] 24)) := (Q.refl u).alloc _
    have hS1 : (fun u => Q w u) (u.alloc (.cells #[.slice (some ⟨g0, 0, none⟩) 11 11, .slice (some ⟨sb, 40, none⟩) 16 16, .slice (some ⟨g7, 0, none⟩) 16 16] 24)) := Q.trans hS q0
    refine ⟨hS1, ?_⟩
    have e1 : (⟨#[.pointer (some ⟨sb, 0, none⟩), x1, x2, .slice (some ⟨g0, 0, none⟩) 11 11, .slice (some ⟨g0, 0, none⟩) 11 11, .pointer (some ⟨sb, 0, none⟩), .pointer (some ⟨sb, 0, none⟩), .pointer (some ⟨sb, 40, none⟩), .slice (some ⟨sb, 40, none⟩) 16 16, .pointer (some ⟨sb, 0, none⟩), .slice (some ⟨g7, 0, none⟩) 16 16, x11, x12, x13, x14, x15, x16, x17], []⟩ : Act).put (some 11) (.slice (some ⟨u.heap.size, 0, none⟩) 3 3) = (⟨#[.pointer (some ⟨sb, 0, none⟩), x1, x2, .slice (some ⟨g0, 0, none⟩) 11 11, .slice (some ⟨g0, 0, none⟩) 11 11, .pointer (some ⟨sb, 0, none⟩), .pointer (some ⟨sb, 0, none⟩), .pointer (some ⟨sb, 40, none⟩), .slice (some ⟨sb, 40, none⟩) 16 16, .pointer (some ⟨sb, 0, none⟩), .slice (some ⟨g7, 0, none⟩) 16 16, .slice (some ⟨u.heap.size, 0, none⟩) 3 3, x12, x13, x14, x15, x16, x17], []⟩ : Act) := by kernel_rfl
    have l1 : (#[true, true, true, true, true, true, true, true, false, false, false, false] : Array Bool).setIfInBounds 8 true = (#[true, true, true, true, true, true, true, true, true, false, false, false] : Array Bool) := by kernel_rfl
    rw [e1, l1]
    clear e1 l1
    exact con0_0_1_7_8 sb dd ds g0 g7 (u.heap.size) w R hQ hl HSU HDG h (u.alloc (.cells #[.slice (some ⟨g0, 0, none⟩) 11 11, .slice (some ⟨sb, 40, none⟩) 16 16, .slice (some ⟨g7, 0, none⟩) 16 16] 24)) hS1 (by obtain ⟨fr, c0⟩ := c0; exact ⟨fr, blk_q q0 c0⟩) (n0) (s7.q q0) (heap_alloc_new u _)
  · refine wpOp_val (w' := u.alloc (.cells z16 63)) (v := .pointer (some ⟨u.heap.size, 0, none⟩)) (some 2) (by kernel_rfl) (by kernel_rfl) (by kernel_rfl) (by kernel_rfl) ?_
    have q0 : Q u (u.alloc (.cells z16 63)) := (Q.refl u).alloc _
    have hS1 : (fun u => Q w u) (u.alloc (.cells z16 63)) := Q.trans hS q0
    refine ⟨hS1, ?_⟩
    have e1 : (⟨#[.pointer (some ⟨sb, 0, none⟩), x1, x2, .slice (some ⟨g0, 0, none⟩) 11 11, .slice (some ⟨g0, 0, none⟩) 11 11, .pointer (some ⟨sb, 0, none⟩), .pointer (some ⟨sb, 0, none⟩), .pointer (some ⟨sb, 40, none⟩), .slice (some ⟨sb, 40, none⟩) 16 16, .pointer (some ⟨sb, 0, none⟩), .slice (some ⟨g7, 0, none⟩) 16 16, x11, x12, x13, x14, x15, x16, x17], []⟩ : Act).put (some 2) (.pointer (some ⟨u.heap.size, 0, none⟩)) = (⟨#[.pointer (some ⟨sb, 0, none⟩), x1, .pointer (some ⟨u.heap.size, 0, none⟩), .slice (some ⟨g0, 0, none⟩) 11 11, .slice (some ⟨g0, 0, none⟩) 11 11, .pointer (some ⟨sb, 0, none⟩), .pointer (some ⟨sb, 0, none⟩), .pointer (some ⟨sb, 40, none⟩), .slice (some ⟨sb, 40, none⟩) 16 16, .pointer (some ⟨sb, 0, none⟩), .slice (some ⟨g7, 0, none⟩) 16 16, x11, x12, x13, x14, x15, x16, x17], []⟩ : Act) := by kernel_rfl
    have l1 : (#[true, true, true, true, true, true, true, true, false, false, false, false] : Array Bool).setIfInBounds 10 true = (#[true, true, true, true, true, true, true, true, false, false, true, false] : Array Bool) := by kernel_rfl
    rw [e1, l1]
    clear e1 l1
    exact con0_0_1_7_10 sb dd ds g0 g7 (u.heap.size) w R hQ hl HSU HDG h (u.alloc (.cells z16 63)) hS1 (by obtain ⟨fr, c0⟩ := c0; exact ⟨fr, blk_q q0 c0⟩) (n0) (s7.q q0) (heap_alloc_new u _) (hS.size)
set_option maxHeartbeats 16000000 in
theorem con0_7_10 (sb : Nat) (dd ds : List Int) (g7 : Nat) (tb : Nat) {x1 x3 x4 x11 x12 x13 x14 x15 x16 x17 : Value} (w : World) (R : Exit → Act → World → Prop) (hQ : ∀ c a d v w, R (.panic c) (a.put d v) w → R (.panic c) a w) (hl : ds.length = 16) (HSU : ∀ u, Q w u → Calls Try.prog 69 #[.pointer (some ⟨sb, 0, none⟩)] u fun e w' => ∃ g, e = .returned (.slice (some ⟨g, 0, none⟩) 16 16) ∧ Q u w' ∧ Seg w' (some ⟨g, 0, none⟩) dd ∧ u.heap.size ≤ g)
    (HDG : ∀ u (g0 g7 g8 : Nat), Q w u → (∃ fr, u.heap[g0]? = some (.cells tApC 5 fr)) → Seg u (some ⟨g7, 0, none⟩) dd → u.heap[g8]? = some (.cells #[.slice (some ⟨g0, 0, none⟩) 11 11, .slice (some ⟨sb, 40, none⟩) 16 16, .slice (some ⟨g7, 0, none⟩) 16 16] 24 (0, 0)) → Calls Try.prog 68 #[.slice (some ⟨g8, 0, none⟩) 3 3] u fun e w' => e = .returned (.agg (u8s ds).toArray) ∧ Q u w')
    (h : ∀ (g0 g7 g8 tb : Nat) (u : World), Q w u → u.heap[tb]? = some (.cells (u8s ds).toArray 63 (0, 0)) → w.heap.size ≤ tb → R .normal (⟨#[.pointer (some ⟨sb, 0, none⟩), x1, .pointer (some ⟨tb, 0, none⟩), .slice (some ⟨g0, 0, none⟩) 11 11, .slice (some ⟨g0, 0, none⟩) 11 11, .pointer (some ⟨sb, 0, none⟩), .pointer (some ⟨sb, 0, none⟩), .pointer (some ⟨sb, 40, none⟩), .slice (some ⟨sb, 40, none⟩) 16 16, .pointer (some ⟨sb, 0, none⟩), .slice (some ⟨g7, 0, none⟩) 16 16, .slice (some ⟨g8, 0, none⟩) 3 3, .agg (u8s ds).toArray, x13, x14, x15, x16, x17], []⟩ : Act) u) (u : World) (hS : (fun u => Q w u) u) (s7 : Seg u (some ⟨g7, 0, none⟩) dd) (z10 : u.heap[tb]? = some (.cells z16 63 (0, 0))) (n10 : w.heap.size ≤ tb) :
    wpAnyH Try.prog .any (RofN Try.f51 0) R (fun u => Q w u) 5 (#[false, false, true, true, true, true, true, true, false, false, true, false] : Array Bool) (⟨#[.pointer (some ⟨sb, 0, none⟩), x1, .pointer (some ⟨tb, 0, none⟩), x3, x4, .pointer (some ⟨sb, 0, none⟩), .pointer (some ⟨sb, 0, none⟩), .pointer (some ⟨sb, 40, none⟩), .slice (some ⟨sb, 40, none⟩) 16 16, .pointer (some ⟨sb, 0, none⟩), .slice (some ⟨g7, 0, none⟩) 16 16, x11, x12, x13, x14, x15, x16, x17], []⟩ : Act) u := by
  refine wpAnyH_one (i := 0) (by kernel_rfl) ?_
  refine wpOp_val (w' := u.alloc (.cells tApC 5)) (v := .slice (some ⟨u.heap.size, 0, none⟩) 11 11) (some 3) (by kernel_rfl) (by kernel_rfl) (by kernel_rfl) (by kernel_rfl) ?_
  have q0 : Q u (u.alloc (.cells tApC 5)) := (Q.refl u).alloc _
  have hS1 : (fun u => Q w u) (u.alloc (.cells tApC 5)) := Q.trans hS q0
  refine ⟨hS1, ?_⟩
  have e1 : (⟨#[.pointer (some ⟨sb, 0, none⟩), x1, .pointer (some ⟨tb, 0, none⟩), x3, x4, .pointer (some ⟨sb, 0, none⟩), .pointer (some ⟨sb, 0, none⟩), .pointer (some ⟨sb, 40, none⟩), .slice (some ⟨sb, 40, none⟩) 16 16, .pointer (some ⟨sb, 0, none⟩), .slice (some ⟨g7, 0, none⟩) 16 16, x11, x12, x13, x14, x15, x16, x17], []⟩ : Act).put (some 3) (.slice (some ⟨u.heap.size, 0, none⟩) 11 11) = (⟨#[.pointer (some ⟨sb, 0, none⟩), x1, .pointer (some ⟨tb, 0, none⟩), .slice (some ⟨u.heap.size, 0, none⟩) 11 11, x4, .pointer (some ⟨sb, 0, none⟩), .pointer (some ⟨sb, 0, none⟩), .pointer (some ⟨sb, 40, none⟩), .slice (some ⟨sb, 40, none⟩) 16 16, .pointer (some ⟨sb, 0, none⟩), .slice (some ⟨g7, 0, none⟩) 16 16, x11, x12, x13, x14, x15, x16, x17], []⟩ : Act) := by kernel_rfl
  have l1 : (#[false, false, true, true, true, true, true, true, false, false, true, false] : Array Bool).setIfInBounds 0 true = (#[true, false, true, true, true, true, true, true, false, false, true, false] : Array Bool) := by kernel_rfl
  rw [e1, l1]
  clear e1 l1
  exact con0_0_7_10 sb dd ds (u.heap.size) g7 tb w R hQ hl HSU HDG h (u.alloc (.cells tApC 5)) hS1 (⟨_, heap_alloc_new u _⟩) (hS.size) (s7.q q0) (blk_q q0 z10) (n10)
set_option maxHeartbeats 16000000 in
theorem con0_0_10 (sb : Nat) (dd ds : List Int) (g0 : Nat) (tb : Nat) {x1 x4 x10 x11 x12 x13 x14 x15 x16 x17 : Value} (w : World) (R : Exit → Act → World → Prop) (hQ : ∀ c a d v w, R (.panic c) (a.put d v) w → R (.panic c) a w) (hl : ds.length = 16) (HSU : ∀ u, Q w u → Calls Try.prog 69 #[.pointer (some ⟨sb, 0, none⟩)] u fun e w' => ∃ g, e = .returned (.slice (some ⟨g, 0, none⟩) 16 16) ∧ Q u w' ∧ Seg w' (some ⟨g, 0, none⟩) dd ∧ u.heap.size ≤ g)
    (HDG : ∀ u (g0 g7 g8 : Nat), Q w u → (∃ fr, u.heap[g0]? = some (.cells tApC 5 fr)) → Seg u (some ⟨g7, 0, none⟩) dd → u.heap[g8]? = some (.cells #[.slice (some ⟨g0, 0, none⟩) 11 11, .slice (some ⟨sb, 40, none⟩) 16 16, .slice (some ⟨g7, 0, none⟩) 16 16] 24 (0, 0)) → Calls Try.prog 68 #[.slice (some ⟨g8, 0, none⟩) 3 3] u fun e w' => e = .returned (.agg (u8s ds).toArray) ∧ Q u w')
    (h : ∀ (g0 g7 g8 tb : Nat) (u : World), Q w u → u.heap[tb]? = some (.cells (u8s ds).toArray 63 (0, 0)) → w.heap.size ≤ tb → R .normal (⟨#[.pointer (some ⟨sb, 0, none⟩), x1, .pointer (some ⟨tb, 0, none⟩), .slice (some ⟨g0, 0, none⟩) 11 11, .slice (some ⟨g0, 0, none⟩) 11 11, .pointer (some ⟨sb, 0, none⟩), .pointer (some ⟨sb, 0, none⟩), .pointer (some ⟨sb, 40, none⟩), .slice (some ⟨sb, 40, none⟩) 16 16, .pointer (some ⟨sb, 0, none⟩), .slice (some ⟨g7, 0, none⟩) 16 16, .slice (some ⟨g8, 0, none⟩) 3 3, .agg (u8s ds).toArray, x13, x14, x15, x16, x17], []⟩ : Act) u) (u : World) (hS : (fun u => Q w u) u) (c0 : ∃ fr, u.heap[g0]? = some (.cells tApC 5 fr)) (n0 : w.heap.size ≤ g0) (z10 : u.heap[tb]? = some (.cells z16 63 (0, 0))) (n10 : w.heap.size ≤ tb) :
    wpAnyH Try.prog .any (RofN Try.f51 0) R (fun u => Q w u) 5 (#[true, false, true, true, true, true, true, false, false, false, true, false] : Array Bool) (⟨#[.pointer (some ⟨sb, 0, none⟩), x1, .pointer (some ⟨tb, 0, none⟩), .slice (some ⟨g0, 0, none⟩) 11 11, x4, .pointer (some ⟨sb, 0, none⟩), .pointer (some ⟨sb, 0, none⟩), .pointer (some ⟨sb, 40, none⟩), .slice (some ⟨sb, 40, none⟩) 16 16, .pointer (some ⟨sb, 0, none⟩), x10, x11, x12, x13, x14, x15, x16, x17], []⟩ : Act) u := by
  refine wpAnyH_l2 (i := 1) (j := 7) (by kernel_rfl) ?_ ?_
  · have hc : (execOp (⟨#[.pointer (some ⟨sb, 0, none⟩), x1, .pointer (some ⟨tb, 0, none⟩), .slice (some ⟨g0, 0, none⟩) 11 11, x4, .pointer (some ⟨sb, 0, none⟩), .pointer (some ⟨sb, 0, none⟩), .pointer (some ⟨sb, 40, none⟩), .slice (some ⟨sb, 40, none⟩) 16 16, .pointer (some ⟨sb, 0, none⟩), x10, x11, x12, x13, x14, x15, x16, x17], []⟩ : Act).eval (((RofN Try.f51 0)[1]?).getD default)).run Try.prog u = .ok (.value (.slice (some ⟨g0, 0, none⟩) 11 11)) (u.freeze ⟨g0, 11, none⟩ 1) := (by obtain ⟨fr, c0⟩ := c0; exact run_const (.tmp 3) g0 11 11 tApC fr (by kernel_rfl) (by kernel_rfl) c0)
    refine wpOp_val (some 4) (by kernel_rfl) (by kernel_rfl) (by kernel_rfl) hc ?_
    clear hc
    have hS1 : (fun u => Q w u) (u.freeze ⟨g0, 11, none⟩ 1) := q_freeze hS n0
    refine ⟨hS1, ?_⟩
    have e1 : (⟨#[.pointer (some ⟨sb, 0, none⟩), x1, .pointer (some ⟨tb, 0, none⟩), .slice (some ⟨g0, 0, none⟩) 11 11, x4, .pointer (some ⟨sb, 0, none⟩), .pointer (some ⟨sb, 0, none⟩), .pointer (some ⟨sb, 40, none⟩), .slice (some ⟨sb, 40, none⟩) 16 16, .pointer (some ⟨sb, 0, none⟩), x10, x11, x12, x13, x14, x15, x16, x17], []⟩ : Act).put (some 4) (.slice (some ⟨g0, 0, none⟩) 11 11) = (⟨#[.pointer (some ⟨sb, 0, none⟩), x1, .pointer (some ⟨tb, 0, none⟩), .slice (some ⟨g0, 0, none⟩) 11 11, .slice (some ⟨g0, 0, none⟩) 11 11, .pointer (some ⟨sb, 0, none⟩), .pointer (some ⟨sb, 0, none⟩), .pointer (some ⟨sb, 40, none⟩), .slice (some ⟨sb, 40, none⟩) 16 16, .pointer (some ⟨sb, 0, none⟩), x10, x11, x12, x13, x14, x15, x16, x17], []⟩ : Act) := by kernel_rfl
    have l1 : (#[true, false, true, true, true, true, true, false, false, false, true, false] : Array Bool).setIfInBounds 1 true = (#[true, true, true, true, true, true, true, false, false, false, true, false] : Array Bool) := by kernel_rfl
    rw [e1, l1]
    clear e1 l1
    exact con0_0_1_10 sb dd ds g0 tb w R hQ hl HSU HDG h (u.freeze ⟨g0, 11, none⟩ 1) hS1 (by obtain ⟨fr, c0⟩ := c0; exact freeze_same c0) (n0) (by obtain ⟨fr, c0⟩ := c0; exact (freeze_block _ _ _ _ (blk_ne z10 c0 (by decide))).trans z10) (n10)
  · refine wpOp_callx (some 10) (by kernel_rfl) (by kernel_rfl) (by kernel_rfl) 69 #[.pointer (some ⟨sb, 0, none⟩)] (by kernel_rfl) (HSU u hS) ?_
    rintro e v ⟨g7, rfl, q1, s7, _⟩
    have q0 : Q u v := q1
    have hS1 : (fun u => Q w u) v := Q.trans hS q0
    refine ⟨_, rfl, hS1, ?_⟩
    have e1 : (⟨#[.pointer (some ⟨sb, 0, none⟩), x1, .pointer (some ⟨tb, 0, none⟩), .slice (some ⟨g0, 0, none⟩) 11 11, x4, .pointer (some ⟨sb, 0, none⟩), .pointer (some ⟨sb, 0, none⟩), .pointer (some ⟨sb, 40, none⟩), .slice (some ⟨sb, 40, none⟩) 16 16, .pointer (some ⟨sb, 0, none⟩), x10, x11, x12, x13, x14, x15, x16, x17], []⟩ : Act).put (some 10) (.slice (some ⟨g7, 0, none⟩) 16 16) = (⟨#[.pointer (some ⟨sb, 0, none⟩), x1, .pointer (some ⟨tb, 0, none⟩), .slice (some ⟨g0, 0, none⟩) 11 11, x4, .pointer (some ⟨sb, 0, none⟩), .pointer (some ⟨sb, 0, none⟩), .pointer (some ⟨sb, 40, none⟩), .slice (some ⟨sb, 40, none⟩) 16 16, .pointer (some ⟨sb, 0, none⟩), .slice (some ⟨g7, 0, none⟩) 16 16, x11, x12, x13, x14, x15, x16, x17], []⟩ : Act) := by kernel_rfl
    have l1 : (#[true, false, true, true, true, true, true, false, false, false, true, false] : Array Bool).setIfInBounds 7 true = (#[true, false, true, true, true, true, true, true, false, false, true, false] : Array Bool) := by kernel_rfl
    rw [e1, l1]
    clear e1 l1
    exact con0_0_7_10 sb dd ds g0 g7 tb w R hQ hl HSU HDG h v hS1 (by obtain ⟨fr, c0⟩ := c0; exact ⟨fr, blk_q q0 c0⟩) (n0) (s7) (blk_q q0 z10) (n10)
set_option maxHeartbeats 16000000 in
theorem con0_0_7 (sb : Nat) (dd ds : List Int) (g0 : Nat) (g7 : Nat) {x1 x2 x4 x11 x12 x13 x14 x15 x16 x17 : Value} (w : World) (R : Exit → Act → World → Prop) (hQ : ∀ c a d v w, R (.panic c) (a.put d v) w → R (.panic c) a w) (hl : ds.length = 16) (HSU : ∀ u, Q w u → Calls Try.prog 69 #[.pointer (some ⟨sb, 0, none⟩)] u fun e w' => ∃ g, e = .returned (.slice (some ⟨g, 0, none⟩) 16 16) ∧ Q u w' ∧ Seg w' (some ⟨g, 0, none⟩) dd ∧ u.heap.size ≤ g)
    (HDG : ∀ u (g0 g7 g8 : Nat), Q w u → (∃ fr, u.heap[g0]? = some (.cells tApC 5 fr)) → Seg u (some ⟨g7, 0, none⟩) dd → u.heap[g8]? = some (.cells #[.slice (some ⟨g0, 0, none⟩) 11 11, .slice (some ⟨sb, 40, none⟩) 16 16, .slice (some ⟨g7, 0, none⟩) 16 16] 24 (0, 0)) → Calls Try.prog 68 #[.slice (some ⟨g8, 0, none⟩) 3 3] u fun e w' => e = .returned (.agg (u8s ds).toArray) ∧ Q u w')
    (h : ∀ (g0 g7 g8 tb : Nat) (u : World), Q w u → u.heap[tb]? = some (.cells (u8s ds).toArray 63 (0, 0)) → w.heap.size ≤ tb → R .normal (⟨#[.pointer (some ⟨sb, 0, none⟩), x1, .pointer (some ⟨tb, 0, none⟩), .slice (some ⟨g0, 0, none⟩) 11 11, .slice (some ⟨g0, 0, none⟩) 11 11, .pointer (some ⟨sb, 0, none⟩), .pointer (some ⟨sb, 0, none⟩), .pointer (some ⟨sb, 40, none⟩), .slice (some ⟨sb, 40, none⟩) 16 16, .pointer (some ⟨sb, 0, none⟩), .slice (some ⟨g7, 0, none⟩) 16 16, .slice (some ⟨g8, 0, none⟩) 3 3, .agg (u8s ds).toArray, x13, x14, x15, x16, x17], []⟩ : Act) u) (u : World) (hS : (fun u => Q w u) u) (c0 : ∃ fr, u.heap[g0]? = some (.cells tApC 5 fr)) (n0 : w.heap.size ≤ g0) (s7 : Seg u (some ⟨g7, 0, none⟩) dd) :
    wpAnyH Try.prog .any (RofN Try.f51 0) R (fun u => Q w u) 5 (#[true, false, true, true, true, true, true, true, false, false, false, false] : Array Bool) (⟨#[.pointer (some ⟨sb, 0, none⟩), x1, x2, .slice (some ⟨g0, 0, none⟩) 11 11, x4, .pointer (some ⟨sb, 0, none⟩), .pointer (some ⟨sb, 0, none⟩), .pointer (some ⟨sb, 40, none⟩), .slice (some ⟨sb, 40, none⟩) 16 16, .pointer (some ⟨sb, 0, none⟩), .slice (some ⟨g7, 0, none⟩) 16 16, x11, x12, x13, x14, x15, x16, x17], []⟩ : Act) u := by
  refine wpAnyH_l2 (i := 1) (j := 10) (by kernel_rfl) ?_ ?_
  · have hc : (execOp (⟨#[.pointer (some ⟨sb, 0, none⟩), x1, x2, .slice (some ⟨g0, 0, none⟩) 11 11, x4, .pointer (some ⟨sb, 0, none⟩), .pointer (some ⟨sb, 0, none⟩), .pointer (some ⟨sb, 40, none⟩), .slice (some ⟨sb, 40, none⟩) 16 16, .pointer (some ⟨sb, 0, none⟩), .slice (some ⟨g7, 0, none⟩) 16 16, x11, x12, x13, x14, x15, x16, x17], []⟩ : Act).eval (((RofN Try.f51 0)[1]?).getD default)).run Try.prog u = .ok (.value (.slice (some ⟨g0, 0, none⟩) 11 11)) (u.freeze ⟨g0, 11, none⟩ 1) := (by obtain ⟨fr, c0⟩ := c0; exact run_const (.tmp 3) g0 11 11 tApC fr (by kernel_rfl) (by kernel_rfl) c0)
    refine wpOp_val (some 4) (by kernel_rfl) (by kernel_rfl) (by kernel_rfl) hc ?_
    clear hc
    have hS1 : (fun u => Q w u) (u.freeze ⟨g0, 11, none⟩ 1) := q_freeze hS n0
    refine ⟨hS1, ?_⟩
    have e1 : (⟨#[.pointer (some ⟨sb, 0, none⟩), x1, x2, .slice (some ⟨g0, 0, none⟩) 11 11, x4, .pointer (some ⟨sb, 0, none⟩), .pointer (some ⟨sb, 0, none⟩), .pointer (some ⟨sb, 40, none⟩), .slice (some ⟨sb, 40, none⟩) 16 16, .pointer (some ⟨sb, 0, none⟩), .slice (some ⟨g7, 0, none⟩) 16 16, x11, x12, x13, x14, x15, x16, x17], []⟩ : Act).put (some 4) (.slice (some ⟨g0, 0, none⟩) 11 11) = (⟨#[.pointer (some ⟨sb, 0, none⟩), x1, x2, .slice (some ⟨g0, 0, none⟩) 11 11, .slice (some ⟨g0, 0, none⟩) 11 11, .pointer (some ⟨sb, 0, none⟩), .pointer (some ⟨sb, 0, none⟩), .pointer (some ⟨sb, 40, none⟩), .slice (some ⟨sb, 40, none⟩) 16 16, .pointer (some ⟨sb, 0, none⟩), .slice (some ⟨g7, 0, none⟩) 16 16, x11, x12, x13, x14, x15, x16, x17], []⟩ : Act) := by kernel_rfl
    have l1 : (#[true, false, true, true, true, true, true, true, false, false, false, false] : Array Bool).setIfInBounds 1 true = (#[true, true, true, true, true, true, true, true, false, false, false, false] : Array Bool) := by kernel_rfl
    rw [e1, l1]
    clear e1 l1
    exact con0_0_1_7 sb dd ds g0 g7 w R hQ hl HSU HDG h (u.freeze ⟨g0, 11, none⟩ 1) hS1 (by obtain ⟨fr, c0⟩ := c0; exact freeze_same c0) (n0) (by obtain ⟨fr, c0⟩ := c0; exact freeze_seg c0 s7)
  · refine wpOp_val (w' := u.alloc (.cells z16 63)) (v := .pointer (some ⟨u.heap.size, 0, none⟩)) (some 2) (by kernel_rfl) (by kernel_rfl) (by kernel_rfl) (by kernel_rfl) ?_
    have q0 : Q u (u.alloc (.cells z16 63)) := (Q.refl u).alloc _
    have hS1 : (fun u => Q w u) (u.alloc (.cells z16 63)) := Q.trans hS q0
    refine ⟨hS1, ?_⟩
    have e1 : (⟨#[.pointer (some ⟨sb, 0, none⟩), x1, x2, .slice (some ⟨g0, 0, none⟩) 11 11, x4, .pointer (some ⟨sb, 0, none⟩), .pointer (some ⟨sb, 0, none⟩), .pointer (some ⟨sb, 40, none⟩), .slice (some ⟨sb, 40, none⟩) 16 16, .pointer (some ⟨sb, 0, none⟩), .slice (some ⟨g7, 0, none⟩) 16 16, x11, x12, x13, x14, x15, x16, x17], []⟩ : Act).put (some 2) (.pointer (some ⟨u.heap.size, 0, none⟩)) = (⟨#[.pointer (some ⟨sb, 0, none⟩), x1, .pointer (some ⟨u.heap.size, 0, none⟩), .slice (some ⟨g0, 0, none⟩) 11 11, x4, .pointer (some ⟨sb, 0, none⟩), .pointer (some ⟨sb, 0, none⟩), .pointer (some ⟨sb, 40, none⟩), .slice (some ⟨sb, 40, none⟩) 16 16, .pointer (some ⟨sb, 0, none⟩), .slice (some ⟨g7, 0, none⟩) 16 16, x11, x12, x13, x14, x15, x16, x17], []⟩ : Act) := by kernel_rfl
    have l1 : (#[true, false, true, true, true, true, true, true, false, false, false, false] : Array Bool).setIfInBounds 10 true = (#[true, false, true, true, true, true, true, true, false, false, true, false] : Array Bool) := by kernel_rfl
    rw [e1, l1]
    clear e1 l1
    exact con0_0_7_10 sb dd ds g0 g7 (u.heap.size) w R hQ hl HSU HDG h (u.alloc (.cells z16 63)) hS1 (by obtain ⟨fr, c0⟩ := c0; exact ⟨fr, blk_q q0 c0⟩) (n0) (s7.q q0) (heap_alloc_new u _) (hS.size)
set_option maxHeartbeats 16000000 in
theorem con0_0_1 (sb : Nat) (dd ds : List Int) (g0 : Nat) {x1 x2 x10 x11 x12 x13 x14 x15 x16 x17 : Value} (w : World) (R : Exit → Act → World → Prop) (hQ : ∀ c a d v w, R (.panic c) (a.put d v) w → R (.panic c) a w) (hl : ds.length = 16) (HSU : ∀ u, Q w u → Calls Try.prog 69 #[.pointer (some ⟨sb, 0, none⟩)] u fun e w' => ∃ g, e = .returned (.slice (some ⟨g, 0, none⟩) 16 16) ∧ Q u w' ∧ Seg w' (some ⟨g, 0, none⟩) dd ∧ u.heap.size ≤ g)
    (HDG : ∀ u (g0 g7 g8 : Nat), Q w u → (∃ fr, u.heap[g0]? = some (.cells tApC 5 fr)) → Seg u (some ⟨g7, 0, none⟩) dd → u.heap[g8]? = some (.cells #[.slice (some ⟨g0, 0, none⟩) 11 11, .slice (some ⟨sb, 40, none⟩) 16 16, .slice (some ⟨g7, 0, none⟩) 16 16] 24 (0, 0)) → Calls Try.prog 68 #[.slice (some ⟨g8, 0, none⟩) 3 3] u fun e w' => e = .returned (.agg (u8s ds).toArray) ∧ Q u w')
    (h : ∀ (g0 g7 g8 tb : Nat) (u : World), Q w u → u.heap[tb]? = some (.cells (u8s ds).toArray 63 (0, 0)) → w.heap.size ≤ tb → R .normal (⟨#[.pointer (some ⟨sb, 0, none⟩), x1, .pointer (some ⟨tb, 0, none⟩), .slice (some ⟨g0, 0, none⟩) 11 11, .slice (some ⟨g0, 0, none⟩) 11 11, .pointer (some ⟨sb, 0, none⟩), .pointer (some ⟨sb, 0, none⟩), .pointer (some ⟨sb, 40, none⟩), .slice (some ⟨sb, 40, none⟩) 16 16, .pointer (some ⟨sb, 0, none⟩), .slice (some ⟨g7, 0, none⟩) 16 16, .slice (some ⟨g8, 0, none⟩) 3 3, .agg (u8s ds).toArray, x13, x14, x15, x16, x17], []⟩ : Act) u) (u : World) (hS : (fun u => Q w u) u) (c0 : ∃ fr, u.heap[g0]? = some (.cells tApC 5 fr)) (n0 : w.heap.size ≤ g0) :
    wpAnyH Try.prog .any (RofN Try.f51 0) R (fun u => Q w u) 5 (#[true, true, true, true, true, true, true, false, false, false, false, false] : Array Bool) (⟨#[.pointer (some ⟨sb, 0, none⟩), x1, x2, .slice (some ⟨g0, 0, none⟩) 11 11, .slice (some ⟨g0, 0, none⟩) 11 11, .pointer (some ⟨sb, 0, none⟩), .pointer (some ⟨sb, 0, none⟩), .pointer (some ⟨sb, 40, none⟩), .slice (some ⟨sb, 40, none⟩) 16 16, .pointer (some ⟨sb, 0, none⟩), x10, x11, x12, x13, x14, x15, x16, x17], []⟩ : Act) u := by
  refine wpAnyH_l2 (i := 7) (j := 10) (by kernel_rfl) ?_ ?_
  · refine wpOp_callx (some 10) (by kernel_rfl) (by kernel_rfl) (by kernel_rfl) 69 #[.pointer (some ⟨sb, 0, none⟩)] (by kernel_rfl) (HSU u hS) ?_
    rintro e v ⟨g7, rfl, q1, s7, _⟩
    have q0 : Q u v := q1
    have hS1 : (fun u => Q w u) v := Q.trans hS q0
    refine ⟨_, rfl, hS1, ?_⟩
    have e1 : (⟨#[.pointer (some ⟨sb, 0, none⟩), x1, x2, .slice (some ⟨g0, 0, none⟩) 11 11, .slice (some ⟨g0, 0, none⟩) 11 11, .pointer (some ⟨sb, 0, none⟩), .pointer (some ⟨sb, 0, none⟩), .pointer (some ⟨sb, 40, none⟩), .slice (some ⟨sb, 40, none⟩) 16 16, .pointer (some ⟨sb, 0, none⟩), x10, x11, x12, x13, x14, x15, x16, x17], []⟩ : Act).put (some 10) (.slice (some ⟨g7, 0, none⟩) 16 16) = (⟨#[.pointer (some ⟨sb, 0, none⟩), x1, x2, .slice (some ⟨g0, 0, none⟩) 11 11, .slice (some ⟨g0, 0, none⟩) 11 11, .pointer (some ⟨sb, 0, none⟩), .pointer (some ⟨sb, 0, none⟩), .pointer (some ⟨sb, 40, none⟩), .slice (some ⟨sb, 40, none⟩) 16 16, .pointer (some ⟨sb, 0, none⟩), .slice (some ⟨g7, 0, none⟩) 16 16, x11, x12, x13, x14, x15, x16, x17], []⟩ : Act) := by kernel_rfl
    have l1 : (#[true, true, true, true, true, true, true, false, false, false, false, false] : Array Bool).setIfInBounds 7 true = (#[true, true, true, true, true, true, true, true, false, false, false, false] : Array Bool) := by kernel_rfl
    rw [e1, l1]
    clear e1 l1
    exact con0_0_1_7 sb dd ds g0 g7 w R hQ hl HSU HDG h v hS1 (by obtain ⟨fr, c0⟩ := c0; exact ⟨fr, blk_q q0 c0⟩) (n0) (s7)
  · refine wpOp_val (w' := u.alloc (.cells z16 63)) (v := .pointer (some ⟨u.heap.size, 0, none⟩)) (some 2) (by kernel_rfl) (by kernel_rfl) (by kernel_rfl) (by kernel_rfl) ?_
    have q0 : Q u (u.alloc (.cells z16 63)) := (Q.refl u).alloc _
    have hS1 : (fun u => Q w u) (u.alloc (.cells z16 63)) := Q.trans hS q0
    refine ⟨hS1, ?_⟩
    have e1 : (⟨#[.pointer (some ⟨sb, 0, none⟩), x1, x2, .slice (some ⟨g0, 0, none⟩) 11 11, .slice (some ⟨g0, 0, none⟩) 11 11, .pointer (some ⟨sb, 0, none⟩), .pointer (some ⟨sb, 0, none⟩), .pointer (some ⟨sb, 40, none⟩), .slice (some ⟨sb, 40, none⟩) 16 16, .pointer (some ⟨sb, 0, none⟩), x10, x11, x12, x13, x14, x15, x16, x17], []⟩ : Act).put (some 2) (.pointer (some ⟨u.heap.size, 0, none⟩)) = (⟨#[.pointer (some ⟨sb, 0, none⟩), x1, .pointer (some ⟨u.heap.size, 0, none⟩), .slice (some ⟨g0, 0, none⟩) 11 11, .slice (some ⟨g0, 0, none⟩) 11 11, .pointer (some ⟨sb, 0, none⟩), .pointer (some ⟨sb, 0, none⟩), .pointer (some ⟨sb, 40, none⟩), .slice (some ⟨sb, 40, none⟩) 16 16, .pointer (some ⟨sb, 0, none⟩), x10, x11, x12, x13, x14, x15, x16, x17], []⟩ : Act) := by kernel_rfl
    have l1 : (#[true, true, true, true, true, true, true, false, false, false, false, false] : Array Bool).setIfInBounds 10 true = (#[true, true, true, true, true, true, true, false, false, false, true, false] : Array Bool) := by kernel_rfl
    rw [e1, l1]
    clear e1 l1
    exact con0_0_1_10 sb dd ds g0 (u.heap.size) w R hQ hl HSU HDG h (u.alloc (.cells z16 63)) hS1 (by obtain ⟨fr, c0⟩ := c0; exact ⟨fr, blk_q q0 c0⟩) (n0) (heap_alloc_new u _) (hS.size)
set_option maxHeartbeats 16000000 in
theorem con0_10 (sb : Nat) (dd ds : List Int) (tb : Nat) {x1 x3 x4 x10 x11 x12 x13 x14 x15 x16 x17 : Value} (w : World) (R : Exit → Act → World → Prop) (hQ : ∀ c a d v w, R (.panic c) (a.put d v) w → R (.panic c) a w) (hl : ds.length = 16) (HSU : ∀ u, Q w u → Calls Try.prog 69 #[.pointer (some ⟨sb, 0, none⟩)] u fun e w' => ∃ g, e = .returned (.slice (some ⟨g, 0, none⟩) 16 16) ∧ Q u w' ∧ Seg w' (some ⟨g, 0, none⟩) dd ∧ u.heap.size ≤ g)
    (HDG : ∀ u (g0 g7 g8 : Nat), Q w u → (∃ fr, u.heap[g0]? = some (.cells tApC 5 fr)) → Seg u (some ⟨g7, 0, none⟩) dd → u.heap[g8]? = some (.cells #[.slice (some ⟨g0, 0, none⟩) 11 11, .slice (some ⟨sb, 40, none⟩) 16 16, .slice (some ⟨g7, 0, none⟩) 16 16] 24 (0, 0)) → Calls Try.prog 68 #[.slice (some ⟨g8, 0, none⟩) 3 3] u fun e w' => e = .returned (.agg (u8s ds).toArray) ∧ Q u w')
    (h : ∀ (g0 g7 g8 tb : Nat) (u : World), Q w u → u.heap[tb]? = some (.cells (u8s ds).toArray 63 (0, 0)) → w.heap.size ≤ tb → R .normal (⟨#[.pointer (some ⟨sb, 0, none⟩), x1, .pointer (some ⟨tb, 0, none⟩), .slice (some ⟨g0, 0, none⟩) 11 11, .slice (some ⟨g0, 0, none⟩) 11 11, .pointer (some ⟨sb, 0, none⟩), .pointer (some ⟨sb, 0, none⟩), .pointer (some ⟨sb, 40, none⟩), .slice (some ⟨sb, 40, none⟩) 16 16, .pointer (some ⟨sb, 0, none⟩), .slice (some ⟨g7, 0, none⟩) 16 16, .slice (some ⟨g8, 0, none⟩) 3 3, .agg (u8s ds).toArray, x13, x14, x15, x16, x17], []⟩ : Act) u) (u : World) (hS : (fun u => Q w u) u) (z10 : u.heap[tb]? = some (.cells z16 63 (0, 0))) (n10 : w.heap.size ≤ tb) :
    wpAnyH Try.prog .any (RofN Try.f51 0) R (fun u => Q w u) 6 (#[false, false, true, true, true, true, true, false, false, false, true, false] : Array Bool) (⟨#[.pointer (some ⟨sb, 0, none⟩), x1, .pointer (some ⟨tb, 0, none⟩), x3, x4, .pointer (some ⟨sb, 0, none⟩), .pointer (some ⟨sb, 0, none⟩), .pointer (some ⟨sb, 40, none⟩), .slice (some ⟨sb, 40, none⟩) 16 16, .pointer (some ⟨sb, 0, none⟩), x10, x11, x12, x13, x14, x15, x16, x17], []⟩ : Act) u := by
  refine wpAnyH_l2 (i := 0) (j := 7) (by kernel_rfl) ?_ ?_
  · refine wpOp_val (w' := u.alloc (.cells tApC 5)) (v := .slice (some ⟨u.heap.size, 0, none⟩) 11 11) (some 3) (by kernel_rfl) (by kernel_rfl) (by kernel_rfl) (by kernel_rfl) ?_
    have q0 : Q u (u.alloc (.cells tApC 5)) := (Q.refl u).alloc _
    have hS1 : (fun u => Q w u) (u.alloc (.cells tApC 5)) := Q.trans hS q0
    refine ⟨hS1, ?_⟩
    have e1 : (⟨#[.pointer (some ⟨sb, 0, none⟩), x1, .pointer (some ⟨tb, 0, none⟩), x3, x4, .pointer (some ⟨sb, 0, none⟩), .pointer (some ⟨sb, 0, none⟩), .pointer (some ⟨sb, 40, none⟩), .slice (some ⟨sb, 40, none⟩) 16 16, .pointer (some ⟨sb, 0, none⟩), x10, x11, x12, x13, x14, x15, x16, x17], []⟩ : Act).put (some 3) (.slice (some ⟨u.heap.size, 0, none⟩) 11 11) = (⟨#[.pointer (some ⟨sb, 0, none⟩), x1, .pointer (some ⟨tb, 0, none⟩), .slice (some ⟨u.heap.size, 0, none⟩) 11 11, x4, .pointer (some ⟨sb, 0, none⟩), .pointer (some ⟨sb, 0, none⟩), .pointer (some ⟨sb, 40, none⟩), .slice (some ⟨sb, 40, none⟩) 16 16, .pointer (some ⟨sb, 0, none⟩), x10, x11, x12, x13, x14, x15, x16, x17], []⟩ : Act) := by kernel_rfl
    have l1 : (#[false, false, true, true, true, true, true, false, false, false, true, false] : Array Bool).setIfInBounds 0 true = (#[true, false, true, true, true, true, true, false, false, false, true, false] : Array Bool) := by kernel_rfl
    rw [e1, l1]
    clear e1 l1
    exact con0_0_10 sb dd ds (u.heap.size) tb w R hQ hl HSU HDG h (u.alloc (.cells tApC 5)) hS1 (⟨_, heap_alloc_new u _⟩) (hS.size) (blk_q q0 z10) (n10)
  · refine wpOp_callx (some 10) (by kernel_rfl) (by kernel_rfl) (by kernel_rfl) 69 #[.pointer (some ⟨sb, 0, none⟩)] (by kernel_rfl) (HSU u hS) ?_
    rintro e v ⟨g7, rfl, q1, s7, _⟩
    have q0 : Q u v := q1
    have hS1 : (fun u => Q w u) v := Q.trans hS q0
    refine ⟨_, rfl, hS1, ?_⟩
    have e1 : (⟨#[.pointer (some ⟨sb, 0, none⟩), x1, .pointer (some ⟨tb, 0, none⟩), x3, x4, .pointer (some ⟨sb, 0, none⟩), .pointer (some ⟨sb, 0, none⟩), .pointer (some ⟨sb, 40, none⟩), .slice (some ⟨sb, 40, none⟩) 16 16, .pointer (some ⟨sb, 0, none⟩), x10, x11, x12, x13, x14, x15, x16, x17], []⟩ : Act).put (some 10) (.slice (some ⟨g7, 0, none⟩) 16 16) = (⟨#[.pointer (some ⟨sb, 0, none⟩), x1, .pointer (some ⟨tb, 0, none⟩), x3, x4, .pointer (some ⟨sb, 0, none⟩), .pointer (some ⟨sb, 0, none⟩), .pointer (some ⟨sb, 40, none⟩), .slice (some ⟨sb, 40, none⟩) 16 16, .pointer (some ⟨sb, 0, none⟩), .slice (some ⟨g7, 0, none⟩) 16 16, x11, x12, x13, x14, x15, x16, x17], []⟩ : Act) := by kernel_rfl
    have l1 : (#[false, false, true, true, true, true, true, false, false, false, true, false] : Array Bool).setIfInBounds 7 true = (#[false, false, true, true, true, true, true, true, false, false, true, false] : Array Bool) := by kernel_rfl
    rw [e1, l1]
    clear e1 l1
    exact con0_7_10 sb dd ds g7 tb w R hQ hl HSU HDG h v hS1 (s7) (blk_q q0 z10) (n10)
set_option maxHeartbeats 16000000 in
theorem con0_7 (sb : Nat) (dd ds : List Int) (g7 : Nat) {x1 x2 x3 x4 x11 x12 x13 x14 x15 x16 x17 : Value} (w : World) (R : Exit → Act → World → Prop) (hQ : ∀ c a d v w, R (.panic c) (a.put d v) w → R (.panic c) a w) (hl : ds.length = 16) (HSU : ∀ u, Q w u → Calls Try.prog 69 #[.pointer (some ⟨sb, 0, none⟩)] u fun e w' => ∃ g, e = .returned (.slice (some ⟨g, 0, none⟩) 16 16) ∧ Q u w' ∧ Seg w' (some ⟨g, 0, none⟩) dd ∧ u.heap.size ≤ g)
    (HDG : ∀ u (g0 g7 g8 : Nat), Q w u → (∃ fr, u.heap[g0]? = some (.cells tApC 5 fr)) → Seg u (some ⟨g7, 0, none⟩) dd → u.heap[g8]? = some (.cells #[.slice (some ⟨g0, 0, none⟩) 11 11, .slice (some ⟨sb, 40, none⟩) 16 16, .slice (some ⟨g7, 0, none⟩) 16 16] 24 (0, 0)) → Calls Try.prog 68 #[.slice (some ⟨g8, 0, none⟩) 3 3] u fun e w' => e = .returned (.agg (u8s ds).toArray) ∧ Q u w')
    (h : ∀ (g0 g7 g8 tb : Nat) (u : World), Q w u → u.heap[tb]? = some (.cells (u8s ds).toArray 63 (0, 0)) → w.heap.size ≤ tb → R .normal (⟨#[.pointer (some ⟨sb, 0, none⟩), x1, .pointer (some ⟨tb, 0, none⟩), .slice (some ⟨g0, 0, none⟩) 11 11, .slice (some ⟨g0, 0, none⟩) 11 11, .pointer (some ⟨sb, 0, none⟩), .pointer (some ⟨sb, 0, none⟩), .pointer (some ⟨sb, 40, none⟩), .slice (some ⟨sb, 40, none⟩) 16 16, .pointer (some ⟨sb, 0, none⟩), .slice (some ⟨g7, 0, none⟩) 16 16, .slice (some ⟨g8, 0, none⟩) 3 3, .agg (u8s ds).toArray, x13, x14, x15, x16, x17], []⟩ : Act) u) (u : World) (hS : (fun u => Q w u) u) (s7 : Seg u (some ⟨g7, 0, none⟩) dd) :
    wpAnyH Try.prog .any (RofN Try.f51 0) R (fun u => Q w u) 6 (#[false, false, true, true, true, true, true, true, false, false, false, false] : Array Bool) (⟨#[.pointer (some ⟨sb, 0, none⟩), x1, x2, x3, x4, .pointer (some ⟨sb, 0, none⟩), .pointer (some ⟨sb, 0, none⟩), .pointer (some ⟨sb, 40, none⟩), .slice (some ⟨sb, 40, none⟩) 16 16, .pointer (some ⟨sb, 0, none⟩), .slice (some ⟨g7, 0, none⟩) 16 16, x11, x12, x13, x14, x15, x16, x17], []⟩ : Act) u := by
  refine wpAnyH_l2 (i := 0) (j := 10) (by kernel_rfl) ?_ ?_
  · refine wpOp_val (w' := u.alloc (.cells tApC 5)) (v := .slice (some ⟨u.heap.size, 0, none⟩) 11 11) (some 3) (by kernel_rfl) (by kernel_rfl) (by kernel_rfl) (by kernel_rfl) ?_
    have q0 : Q u (u.alloc (.cells tApC 5)) := (Q.refl u).alloc _
    have hS1 : (fun u => Q w u) (u.alloc (.cells tApC 5)) := Q.trans hS q0
    refine ⟨hS1, ?_⟩
    have e1 : (⟨#[.pointer (some ⟨sb, 0, none⟩), x1, x2, x3, x4, .pointer (some ⟨sb, 0, none⟩), .pointer (some ⟨sb, 0, none⟩), .pointer (some ⟨sb, 40, none⟩), .slice (some ⟨sb, 40, none⟩) 16 16, .pointer (some ⟨sb, 0, none⟩), .slice (some ⟨g7, 0, none⟩) 16 16, x11, x12, x13, x14, x15, x16, x17], []⟩ : Act).put (some 3) (.slice (some ⟨u.heap.size, 0, none⟩) 11 11) = (⟨#[.pointer (some ⟨sb, 0, none⟩), x1, x2, .slice (some ⟨u.heap.size, 0, none⟩) 11 11, x4, .pointer (some ⟨sb, 0, none⟩), .pointer (some ⟨sb, 0, none⟩), .pointer (some ⟨sb, 40, none⟩), .slice (some ⟨sb, 40, none⟩) 16 16, .pointer (some ⟨sb, 0, none⟩), .slice (some ⟨g7, 0, none⟩) 16 16, x11, x12, x13, x14, x15, x16, x17], []⟩ : Act) := by kernel_rfl
    have l1 : (#[false, false, true, true, true, true, true, true, false, false, false, false] : Array Bool).setIfInBounds 0 true = (#[true, false, true, true, true, true, true, true, false, false, false, false] : Array Bool) := by kernel_rfl
    rw [e1, l1]
    clear e1 l1
    exact con0_0_7 sb dd ds (u.heap.size) g7 w R hQ hl HSU HDG h (u.alloc (.cells tApC 5)) hS1 (⟨_, heap_alloc_new u _⟩) (hS.size) (s7.q q0)
  · refine wpOp_val (w' := u.alloc (.cells z16 63)) (v := .pointer (some ⟨u.heap.size, 0, none⟩)) (some 2) (by kernel_rfl) (by kernel_rfl) (by kernel_rfl) (by kernel_rfl) ?_
    have q0 : Q u (u.alloc (.cells z16 63)) := (Q.refl u).alloc _
    have hS1 : (fun u => Q w u) (u.alloc (.cells z16 63)) := Q.trans hS q0
    refine ⟨hS1, ?_⟩
    have e1 : (⟨#[.pointer (some ⟨sb, 0, none⟩), x1, x2, x3, x4, .pointer (some ⟨sb, 0, none⟩), .pointer (some ⟨sb, 0, none⟩), .pointer (some ⟨sb, 40, none⟩), .slice (some ⟨sb, 40, none⟩) 16 16, .pointer (some ⟨sb, 0, none⟩), .slice (some ⟨g7, 0, none⟩) 16 16, x11, x12, x13, x14, x15, x16, x17], []⟩ : Act).put (some 2) (.pointer (some ⟨u.heap.size, 0, none⟩)) = (⟨#[.pointer (some ⟨sb, 0, none⟩), x1, .pointer (some ⟨u.heap.size, 0, none⟩), x3, x4, .pointer (some ⟨sb, 0, none⟩), .pointer (some ⟨sb, 0, none⟩), .pointer (some ⟨sb, 40, none⟩), .slice (some ⟨sb, 40, none⟩) 16 16, .pointer (some ⟨sb, 0, none⟩), .slice (some ⟨g7, 0, none⟩) 16 16, x11, x12, x13, x14, x15, x16, x17], []⟩ : Act) := by kernel_rfl
    have l1 : (#[false, false, true, true, true, true, true, true, false, false, false, false] : Array Bool).setIfInBounds 10 true = (#[false, false, true, true, true, true, true, true, false, false, true, false] : Array Bool) := by kernel_rfl
    rw [e1, l1]
    clear e1 l1
    exact con0_7_10 sb dd ds g7 (u.heap.size) w R hQ hl HSU HDG h (u.alloc (.cells z16 63)) hS1 (s7.q q0) (heap_alloc_new u _) (hS.size)
set_option maxHeartbeats 16000000 in
theorem con0_0 (sb : Nat) (dd ds : List Int) (g0 : Nat) {x1 x2 x4 x10 x11 x12 x13 x14 x15 x16 x17 : Value} (w : World) (R : Exit → Act → World → Prop) (hQ : ∀ c a d v w, R (.panic c) (a.put d v) w → R (.panic c) a w) (hl : ds.length = 16) (HSU : ∀ u, Q w u → Calls Try.prog 69 #[.pointer (some ⟨sb, 0, none⟩)] u fun e w' => ∃ g, e = .returned (.slice (some ⟨g, 0, none⟩) 16 16) ∧ Q u w' ∧ Seg w' (some ⟨g, 0, none⟩) dd ∧ u.heap.size ≤ g)
    (HDG : ∀ u (g0 g7 g8 : Nat), Q w u → (∃ fr, u.heap[g0]? = some (.cells tApC 5 fr)) → Seg u (some ⟨g7, 0, none⟩) dd → u.heap[g8]? = some (.cells #[.slice (some ⟨g0, 0, none⟩) 11 11, .slice (some ⟨sb, 40, none⟩) 16 16, .slice (some ⟨g7, 0, none⟩) 16 16] 24 (0, 0)) → Calls Try.prog 68 #[.slice (some ⟨g8, 0, none⟩) 3 3] u fun e w' => e = .returned (.agg (u8s ds).toArray) ∧ Q u w')
    (h : ∀ (g0 g7 g8 tb : Nat) (u : World), Q w u → u.heap[tb]? = some (.cells (u8s ds).toArray 63 (0, 0)) → w.heap.size ≤ tb → R .normal (⟨#[.pointer (some ⟨sb, 0, none⟩), x1, .pointer (some ⟨tb, 0, none⟩), .slice (some ⟨g0, 0, none⟩) 11 11, .slice (some ⟨g0, 0, none⟩) 11 11, .pointer (some ⟨sb, 0, none⟩), .pointer (some ⟨sb, 0, none⟩), .pointer (some ⟨sb, 40, none⟩), .slice (some ⟨sb, 40, none⟩) 16 16, .pointer (some ⟨sb, 0, none⟩), .slice (some ⟨g7, 0, none⟩) 16 16, .slice (some ⟨g8, 0, none⟩) 3 3, .agg (u8s ds).toArray, x13, x14, x15, x16, x17], []⟩ : Act) u) (u : World) (hS : (fun u => Q w u) u) (c0 : ∃ fr, u.heap[g0]? = some (.cells tApC 5 fr)) (n0 : w.heap.size ≤ g0) :
    wpAnyH Try.prog .any (RofN Try.f51 0) R (fun u => Q w u) 6 (#[true, false, true, true, true, true, true, false, false, false, false, false] : Array Bool) (⟨#[.pointer (some ⟨sb, 0, none⟩), x1, x2, .slice (some ⟨g0, 0, none⟩) 11 11, x4, .pointer (some ⟨sb, 0, none⟩), .pointer (some ⟨sb, 0, none⟩), .pointer (some ⟨sb, 40, none⟩), .slice (some ⟨sb, 40, none⟩) 16 16, .pointer (some ⟨sb, 0, none⟩), x10, x11, x12, x13, x14, x15, x16, x17], []⟩ : Act) u := by
  refine wpAnyH_l3 (i := 1) (j := 7) (k := 10) (by kernel_rfl) ?_ ?_ ?_
  · have hc : (execOp (⟨#[.pointer (some ⟨sb, 0, none⟩), x1, x2, .slice (some ⟨g0, 0, none⟩) 11 11, x4, .pointer (some ⟨sb, 0, none⟩), .pointer (some ⟨sb, 0, none⟩), .pointer (some ⟨sb, 40, none⟩), .slice (some ⟨sb, 40, none⟩) 16 16, .pointer (some ⟨sb, 0, none⟩), x10, x11, x12, x13, x14, x15, x16, x17], []⟩ : Act).eval (((RofN Try.f51 0)[1]?).getD default)).run Try.prog u = .ok (.value (.slice (some ⟨g0, 0, none⟩) 11 11)) (u.freeze ⟨g0, 11, none⟩ 1) := (by obtain ⟨fr, c0⟩ := c0; exact run_const (.tmp 3) g0 11 11 tApC fr (by kernel_rfl) (by kernel_rfl) c0)
    refine wpOp_val (some 4) (by kernel_rfl) (by kernel_rfl) (by kernel_rfl) hc ?_
    clear hc
    have hS1 : (fun u => Q w u) (u.freeze ⟨g0, 11, none⟩ 1) := q_freeze hS n0
    refine ⟨hS1, ?_⟩
    have e1 : (⟨#[.pointer (some ⟨sb, 0, none⟩), x1, x2, .slice (some ⟨g0, 0, none⟩) 11 11, x4, .pointer (some ⟨sb, 0, none⟩), .pointer (some ⟨sb, 0, none⟩), .pointer (some ⟨sb, 40, none⟩), .slice (some ⟨sb, 40, none⟩) 16 16, .pointer (some ⟨sb, 0, none⟩), x10, x11, x12, x13, x14, x15, x16, x17], []⟩ : Act).put (some 4) (.slice (some ⟨g0, 0, none⟩) 11 11) = (⟨#[.pointer (some ⟨sb, 0, none⟩), x1, x2, .slice (some ⟨g0, 0, none⟩) 11 11, .slice (some ⟨g0, 0, none⟩) 11 11, .pointer (some ⟨sb, 0, none⟩), .pointer (some ⟨sb, 0, none⟩), .pointer (some ⟨sb, 40, none⟩), .slice (some ⟨sb, 40, none⟩) 16 16, .pointer (some ⟨sb, 0, none⟩), x10, x11, x12, x13, x14, x15, x16, x17], []⟩ : Act) := by kernel_rfl
    have l1 : (#[true, false, true, true, true, true, true, false, false, false, false, false] : Array Bool).setIfInBounds 1 true = (#[true, true, true, true, true, true, true, false, false, false, false, false] : Array Bool) := by kernel_rfl
    rw [e1, l1]
    clear e1 l1
    exact con0_0_1 sb dd ds g0 w R hQ hl HSU HDG h (u.freeze ⟨g0, 11, none⟩ 1) hS1 (by obtain ⟨fr, c0⟩ := c0; exact freeze_same c0) (n0)
  · refine wpOp_callx (some 10) (by kernel_rfl) (by kernel_rfl) (by kernel_rfl) 69 #[.pointer (some ⟨sb, 0, none⟩)] (by kernel_rfl) (HSU u hS) ?_
    rintro e v ⟨g7, rfl, q1, s7, _⟩
    have q0 : Q u v := q1
    have hS1 : (fun u => Q w u) v := Q.trans hS q0
    refine ⟨_, rfl, hS1, ?_⟩
    have e1 : (⟨#[.pointer (some ⟨sb, 0, none⟩), x1, x2, .slice (some ⟨g0, 0, none⟩) 11 11, x4, .pointer (some ⟨sb, 0, none⟩), .pointer (some ⟨sb, 0, none⟩), .pointer (some ⟨sb, 40, none⟩), .slice (some ⟨sb, 40, none⟩) 16 16, .pointer (some ⟨sb, 0, none⟩), x10, x11, x12, x13, x14, x15, x16, x17], []⟩ : Act).put (some 10) (.slice (some ⟨g7, 0, none⟩) 16 16) = (⟨#[.pointer (some ⟨sb, 0, none⟩), x1, x2, .slice (some ⟨g0, 0, none⟩) 11 11, x4, .pointer (some ⟨sb, 0, none⟩), .pointer (some ⟨sb, 0, none⟩), .pointer (some ⟨sb, 40, none⟩), .slice (some ⟨sb, 40, none⟩) 16 16, .pointer (some ⟨sb, 0, none⟩), .slice (some ⟨g7, 0, none⟩) 16 16, x11, x12, x13, x14, x15, x16, x17], []⟩ : Act) := by kernel_rfl
    have l1 : (#[true, false, true, true, true, true, true, false, false, false, false, false] : Array Bool).setIfInBounds 7 true = (#[true, false, true, true, true, true, true, true, false, false, false, false] : Array Bool) := by kernel_rfl
    rw [e1, l1]
    clear e1 l1
    exact con0_0_7 sb dd ds g0 g7 w R hQ hl HSU HDG h v hS1 (by obtain ⟨fr, c0⟩ := c0; exact ⟨fr, blk_q q0 c0⟩) (n0) (s7)
  · refine wpOp_val (w' := u.alloc (.cells z16 63)) (v := .pointer (some ⟨u.heap.size, 0, none⟩)) (some 2) (by kernel_rfl) (by kernel_rfl) (by kernel_rfl) (by kernel_rfl) ?_
    have q0 : Q u (u.alloc (.cells z16 63)) := (Q.refl u).alloc _
    have hS1 : (fun u => Q w u) (u.alloc (.cells z16 63)) := Q.trans hS q0
    refine ⟨hS1, ?_⟩
    have e1 : (⟨#[.pointer (some ⟨sb, 0, none⟩), x1, x2, .slice (some ⟨g0, 0, none⟩) 11 11, x4, .pointer (some ⟨sb, 0, none⟩), .pointer (some ⟨sb, 0, none⟩), .pointer (some ⟨sb, 40, none⟩), .slice (some ⟨sb, 40, none⟩) 16 16, .pointer (some ⟨sb, 0, none⟩), x10, x11, x12, x13, x14, x15, x16, x17], []⟩ : Act).put (some 2) (.pointer (some ⟨u.heap.size, 0, none⟩)) = (⟨#[.pointer (some ⟨sb, 0, none⟩), x1, .pointer (some ⟨u.heap.size, 0, none⟩), .slice (some ⟨g0, 0, none⟩) 11 11, x4, .pointer (some ⟨sb, 0, none⟩), .pointer (some ⟨sb, 0, none⟩), .pointer (some ⟨sb, 40, none⟩), .slice (some ⟨sb, 40, none⟩) 16 16, .pointer (some ⟨sb, 0, none⟩), x10, x11, x12, x13, x14, x15, x16, x17], []⟩ : Act) := by kernel_rfl
    have l1 : (#[true, false, true, true, true, true, true, false, false, false, false, false] : Array Bool).setIfInBounds 10 true = (#[true, false, true, true, true, true, true, false, false, false, true, false] : Array Bool) := by kernel_rfl
    rw [e1, l1]
    clear e1 l1
    exact con0_0_10 sb dd ds g0 (u.heap.size) w R hQ hl HSU HDG h (u.alloc (.cells z16 63)) hS1 (by obtain ⟨fr, c0⟩ := c0; exact ⟨fr, blk_q q0 c0⟩) (n0) (heap_alloc_new u _) (hS.size)
set_option maxHeartbeats 16000000 in
theorem con0_o (sb : Nat) (dd ds : List Int)  {x1 x2 x3 x4 x10 x11 x12 x13 x14 x15 x16 x17 : Value} (w : World) (R : Exit → Act → World → Prop) (hQ : ∀ c a d v w, R (.panic c) (a.put d v) w → R (.panic c) a w) (hl : ds.length = 16) (HSU : ∀ u, Q w u → Calls Try.prog 69 #[.pointer (some ⟨sb, 0, none⟩)] u fun e w' => ∃ g, e = .returned (.slice (some ⟨g, 0, none⟩) 16 16) ∧ Q u w' ∧ Seg w' (some ⟨g, 0, none⟩) dd ∧ u.heap.size ≤ g)
    (HDG : ∀ u (g0 g7 g8 : Nat), Q w u → (∃ fr, u.heap[g0]? = some (.cells tApC 5 fr)) → Seg u (some ⟨g7, 0, none⟩) dd → u.heap[g8]? = some (.cells #[.slice (some ⟨g0, 0, none⟩) 11 11, .slice (some ⟨sb, 40, none⟩) 16 16, .slice (some ⟨g7, 0, none⟩) 16 16] 24 (0, 0)) → Calls Try.prog 68 #[.slice (some ⟨g8, 0, none⟩) 3 3] u fun e w' => e = .returned (.agg (u8s ds).toArray) ∧ Q u w')
    (h : ∀ (g0 g7 g8 tb : Nat) (u : World), Q w u → u.heap[tb]? = some (.cells (u8s ds).toArray 63 (0, 0)) → w.heap.size ≤ tb → R .normal (⟨#[.pointer (some ⟨sb, 0, none⟩), x1, .pointer (some ⟨tb, 0, none⟩), .slice (some ⟨g0, 0, none⟩) 11 11, .slice (some ⟨g0, 0, none⟩) 11 11, .pointer (some ⟨sb, 0, none⟩), .pointer (some ⟨sb, 0, none⟩), .pointer (some ⟨sb, 40, none⟩), .slice (some ⟨sb, 40, none⟩) 16 16, .pointer (some ⟨sb, 0, none⟩), .slice (some ⟨g7, 0, none⟩) 16 16, .slice (some ⟨g8, 0, none⟩) 3 3, .agg (u8s ds).toArray, x13, x14, x15, x16, x17], []⟩ : Act) u) (u : World) (hS : (fun u => Q w u) u)  :
    wpAnyH Try.prog .any (RofN Try.f51 0) R (fun u => Q w u) 7 (#[false, false, true, true, true, true, true, false, false, false, false, false] : Array Bool) (⟨#[.pointer (some ⟨sb, 0, none⟩), x1, x2, x3, x4, .pointer (some ⟨sb, 0, none⟩), .pointer (some ⟨sb, 0, none⟩), .pointer (some ⟨sb, 40, none⟩), .slice (some ⟨sb, 40, none⟩) 16 16, .pointer (some ⟨sb, 0, none⟩), x10, x11, x12, x13, x14, x15, x16, x17], []⟩ : Act) u := by
  refine wpAnyH_l3 (i := 0) (j := 7) (k := 10) (by kernel_rfl) ?_ ?_ ?_
  · refine wpOp_val (w' := u.alloc (.cells tApC 5)) (v := .slice (some ⟨u.heap.size, 0, none⟩) 11 11) (some 3) (by kernel_rfl) (by kernel_rfl) (by kernel_rfl) (by kernel_rfl) ?_
    have q0 : Q u (u.alloc (.cells tApC 5)) := (Q.refl u).alloc _
    have hS1 : (fun u => Q w u) (u.alloc (.cells tApC 5)) := Q.trans hS q0
    refine ⟨hS1, ?_⟩
    have e1 : (⟨#[.pointer (some ⟨sb, 0, none⟩), x1, x2, x3, x4, .pointer (some ⟨sb, 0, none⟩), .pointer (some ⟨sb, 0, none⟩), .pointer (some ⟨sb, 40, none⟩), .slice (some ⟨sb, 40, none⟩) 16 16, .pointer (some ⟨sb, 0, none⟩), x10, x11, x12, x13, x14, x15, x16, x17], []⟩ : Act).put (some 3) (.slice (some ⟨u.heap.size, 0, none⟩) 11 11) = (⟨#[.pointer (some ⟨sb, 0, none⟩), x1, x2, .slice (some ⟨u.heap.size, 0, none⟩) 11 11, x4, .pointer (some ⟨sb, 0, none⟩), .pointer (some ⟨sb, 0, none⟩), .pointer (some ⟨sb, 40, none⟩), .slice (some ⟨sb, 40, none⟩) 16 16, .pointer (some ⟨sb, 0, none⟩), x10, x11, x12, x13, x14, x15, x16, x17], []⟩ : Act) := by kernel_rfl
    have l1 : (#[false, false, true, true, true, true, true, false, false, false, false, false] : Array Bool).setIfInBounds 0 true = (#[true, false, true, true, true, true, true, false, false, false, false, false] : Array Bool) := by kernel_rfl
    rw [e1, l1]
    clear e1 l1
    exact con0_0 sb dd ds (u.heap.size) w R hQ hl HSU HDG h (u.alloc (.cells tApC 5)) hS1 (⟨_, heap_alloc_new u _⟩) (hS.size)
  · refine wpOp_callx (some 10) (by kernel_rfl) (by kernel_rfl) (by kernel_rfl) 69 #[.pointer (some ⟨sb, 0, none⟩)] (by kernel_rfl) (HSU u hS) ?_
    rintro e v ⟨g7, rfl, q1, s7, _⟩
    have q0 : Q u v := q1
    have hS1 : (fun u => Q w u) v := Q.trans hS q0
    refine ⟨_, rfl, hS1, ?_⟩
    have e1 : (⟨#[.pointer (some ⟨sb, 0, none⟩), x1, x2, x3, x4, .pointer (some ⟨sb, 0, none⟩), .pointer (some ⟨sb, 0, none⟩), .pointer (some ⟨sb, 40, none⟩), .slice (some ⟨sb, 40, none⟩) 16 16, .pointer (some ⟨sb, 0, none⟩), x10, x11, x12, x13, x14, x15, x16, x17], []⟩ : Act).put (some 10) (.slice (some ⟨g7, 0, none⟩) 16 16) = (⟨#[.pointer (some ⟨sb, 0, none⟩), x1, x2, x3, x4, .pointer (some ⟨sb, 0, none⟩), .pointer (some ⟨sb, 0, none⟩), .pointer (some ⟨sb, 40, none⟩), .slice (some ⟨sb, 40, none⟩) 16 16, .pointer (some ⟨sb, 0, none⟩), .slice (some ⟨g7, 0, none⟩) 16 16, x11, x12, x13, x14, x15, x16, x17], []⟩ : Act) := by kernel_rfl
    have l1 : (#[false, false, true, true, true, true, true, false, false, false, false, false] : Array Bool).setIfInBounds 7 true = (#[false, false, true, true, true, true, true, true, false, false, false, false] : Array Bool) := by kernel_rfl
    rw [e1, l1]
    clear e1 l1
    exact con0_7 sb dd ds g7 w R hQ hl HSU HDG h v hS1 (s7)
  · refine wpOp_val (w' := u.alloc (.cells z16 63)) (v := .pointer (some ⟨u.heap.size, 0, none⟩)) (some 2) (by kernel_rfl) (by kernel_rfl) (by kernel_rfl) (by kernel_rfl) ?_
    have q0 : Q u (u.alloc (.cells z16 63)) := (Q.refl u).alloc _
    have hS1 : (fun u => Q w u) (u.alloc (.cells z16 63)) := Q.trans hS q0
    refine ⟨hS1, ?_⟩
    have e1 : (⟨#[.pointer (some ⟨sb, 0, none⟩), x1, x2, x3, x4, .pointer (some ⟨sb, 0, none⟩), .pointer (some ⟨sb, 0, none⟩), .pointer (some ⟨sb, 40, none⟩), .slice (some ⟨sb, 40, none⟩) 16 16, .pointer (some ⟨sb, 0, none⟩), x10, x11, x12, x13, x14, x15, x16, x17], []⟩ : Act).put (some 2) (.pointer (some ⟨u.heap.size, 0, none⟩)) = (⟨#[.pointer (some ⟨sb, 0, none⟩), x1, .pointer (some ⟨u.heap.size, 0, none⟩), x3, x4, .pointer (some ⟨sb, 0, none⟩), .pointer (some ⟨sb, 0, none⟩), .pointer (some ⟨sb, 40, none⟩), .slice (some ⟨sb, 40, none⟩) 16 16, .pointer (some ⟨sb, 0, none⟩), x10, x11, x12, x13, x14, x15, x16, x17], []⟩ : Act) := by kernel_rfl
    have l1 : (#[false, false, true, true, true, true, true, false, false, false, false, false] : Array Bool).setIfInBounds 10 true = (#[false, false, true, true, true, true, true, false, false, false, true, false] : Array Bool) := by kernel_rfl
    rw [e1, l1]
    clear e1 l1
    exact con0_10 sb dd ds (u.heap.size) w R hQ hl HSU HDG h (u.alloc (.cells z16 63)) hS1 (heap_alloc_new u _) (hS.size)
set_option maxHeartbeats 16000000 in
theorem con0 (sb : Nat) (dd ds : List Int) {x1 x2 x3 x4 x5 x6 x7 x8 x9 x10 x11 x12 x13 x14 x15 x16 x17 : Value} (w : World) (R : Exit → Act → World → Prop) (hQ : ∀ c a d v w, R (.panic c) (a.put d v) w → R (.panic c) a w) (hl : ds.length = 16) (HSU : ∀ u, Q w u → Calls Try.prog 69 #[.pointer (some ⟨sb, 0, none⟩)] u fun e w' => ∃ g, e = .returned (.slice (some ⟨g, 0, none⟩) 16 16) ∧ Q u w' ∧ Seg w' (some ⟨g, 0, none⟩) dd ∧ u.heap.size ≤ g)
    (HDG : ∀ u (g0 g7 g8 : Nat), Q w u → (∃ fr, u.heap[g0]? = some (.cells tApC 5 fr)) → Seg u (some ⟨g7, 0, none⟩) dd → u.heap[g8]? = some (.cells #[.slice (some ⟨g0, 0, none⟩) 11 11, .slice (some ⟨sb, 40, none⟩) 16 16, .slice (some ⟨g7, 0, none⟩) 16 16] 24 (0, 0)) → Calls Try.prog 68 #[.slice (some ⟨g8, 0, none⟩) 3 3] u fun e w' => e = .returned (.agg (u8s ds).toArray) ∧ Q u w') (hS : (fun u => Q w u) w)
    (h : ∀ (g0 g7 g8 tb : Nat) (u : World), Q w u → u.heap[tb]? = some (.cells (u8s ds).toArray 63 (0, 0)) → w.heap.size ≤ tb → R .normal (⟨#[.pointer (some ⟨sb, 0, none⟩), x1, .pointer (some ⟨tb, 0, none⟩), .slice (some ⟨g0, 0, none⟩) 11 11, .slice (some ⟨g0, 0, none⟩) 11 11, .pointer (some ⟨sb, 0, none⟩), .pointer (some ⟨sb, 0, none⟩), .pointer (some ⟨sb, 40, none⟩), .slice (some ⟨sb, 40, none⟩) 16 16, .pointer (some ⟨sb, 0, none⟩), .slice (some ⟨g7, 0, none⟩) 16 16, .slice (some ⟨g8, 0, none⟩) 3 3, .agg (u8s ds).toArray, x13, x14, x15, x16, x17], []⟩ : Act) u) :
    (Code.region 0 (RofN Try.f51 0) true).wp Try.prog R (⟨#[.pointer (some ⟨sb, 0, none⟩), x1, x2, x3, x4, x5, x6, x7, x8, x9, x10, x11, x12, x13, x14, x15, x16, x17], []⟩ : Act) w := by
  refine wp_region_held (S := (fun u => Q w u)) (by kernel_rfl) ?_
  have hsz : (RofN Try.f51 0).size = 12 := by kernel_rfl
  rw [hsz]
  have hS0 : (fun u => Q w u) w.drew := Q.trans hS ((Q.refl w).drew)
  refine chn_take (by kernel_rfl) hQ hS0 7 (con0g0z sb dd ds ) _ _ (con0g0 sb dd ds  w) ?_
  have e0 : putL (RofN Try.f51 0) (con0g0z sb dd ds ) (⟨#[.pointer (some ⟨sb, 0, none⟩), x1, x2, x3, x4, x5, x6, x7, x8, x9, x10, x11, x12, x13, x14, x15, x16, x17], []⟩ : Act) = (⟨#[.pointer (some ⟨sb, 0, none⟩), x1, x2, x3, x4, .pointer (some ⟨sb, 0, none⟩), .pointer (some ⟨sb, 0, none⟩), .pointer (some ⟨sb, 40, none⟩), .slice (some ⟨sb, 40, none⟩) 16 16, .pointer (some ⟨sb, 0, none⟩), x10, x11, x12, x13, x14, x15, x16, x17], []⟩ : Act) := by kernel_rfl
  have l0 : setL (con0g0z sb dd ds ) (Array.replicate 12 false) = (#[false, false, true, true, true, true, true, false, false, false, false, false] : Array Bool) := by kernel_rfl
  rw [e0, l0]
  clear e0 l0
  exact con0_o sb dd ds w R hQ hl HSU HDG h _ hS0
end Go.Proofs.Ytekpepnonhbkcaa
namespace Go.Proofs.Ytekpepnonhbkcaa
open Go.RowKit
set_option linter.unusedVariables false
set_option maxRecDepth 20000

theorem ShAt.appC {w : World} {sb : Nat} {S : Sh} (h : ShAt w sb S) : w.cell? ⟨sb, 58, none⟩ = some (.slice S.appC.a S.appC.n S.appC.c) := by rw [h.cell, show 58 = 56 + 2 from rfl, S.end_ h.own h.root]; rfl
theorem ShAt.appS {w : World} {sb : Nat} {S : Sh} (h : ShAt w sb S) : w.cell? ⟨sb, 59, none⟩ = some (.slice S.appS.a S.appS.n S.appS.c) := by rw [h.cell, show 59 = 56 + 3 from rfl, S.end_ h.own h.root]; rfl
def sCap : ByteArray := ⟨#[99, 32, 97, 112]⟩
def sSap : ByteArray := ⟨#[115, 32, 97, 112]⟩
/-- The application's root. -/
def raL (A : Ab) : List Int := dg (tAp ++ (A.rt ++ dg A.sd))
def coA (A : Ab) : Ab := { A with ac := expR (raL A) (Go.Proofs.Ytekpepnonhbkcaa.sb sCap) 16, as_ := expR (raL A) (Go.Proofs.Ytekpepnonhbkcaa.sb sSap) 16 }
def tri {α : Type} (x y z : α) (j : Nat) : α := if j = 0 then x else if j = 1 then y else z
theorem seg_root {w : World} {B sb : Nat} {S : Sh} {Fs : List Fl} {A : Ab} (h : Fu w B sb S Fs A) : Seg w (some ⟨sb, 40, none⟩) A.rt := by
  intro _
  refine ⟨sb, 40, rfl, fun i hi => ?_⟩
  refine h.sd.at_.rootAt i _ ?_
  rw [h.re.rt, List.getElem?_map, List.getElem?_eq_getElem hi, List.getD_eq_getElem?_getD, List.getElem?_eq_getElem hi]; rfl
theorem Fu.rl {w : World} {B sb : Nat} {S : Sh} {Fs : List Fl} {A : Ab} (h : Fu w B sb S Fs A) : A.rt.length = 16 := by
  have := h.sd.at_.root
  rw [h.re.rt] at this
  simpa using this
set_option maxHeartbeats 8000000 in
theorem con_any (B sb : Nat) (S : Sh) (Fs : List Fl) (A : Ab) (w : World) (h : Fu w B sb S Fs A) (hz : ByL A.sd) (hn : A.sd.length ≤ 500000) (hrz : ByL A.rt) :
    Calls Try.prog 51 #[.pointer (some ⟨sb, 0, none⟩)] w fun e w' => e = .returned (.tuple #[]) ∧ ∃ S', Aft w B sb S Fs (coA A) w' S' Fs := by
  have HF := hid h
  have HZ := hid hz
  have HN := hid hn
  have HRZ := hid hrz
  have HL := hid (show A.sd.length = S.said.n from Row.len h.sd.sr)
  clear h hz hn hrz
  have HRA := hid (show dg (tAp ++ (A.rt ++ dg A.sd)) = raL A from rfl)
  have HRL := hid (show (raL A).length = 16 from dg_len _)
  have HAZ := hid (show ByL (raL A) from dg_lt _)
  have HAA := hid (show coA A = { A with ac := expR (raL A) (Go.Proofs.Ytekpepnonhbkcaa.sb sCap) 16, as_ := expR (raL A) (Go.Proofs.Ytekpepnonhbkcaa.sb sSap) 16 } from rfl)
  have HSU := hid (fun (u : World) (q : Q w u) => ssum_any sb S A.sd u (HF.out.q q).sd.at_ (Row.seg (HF.out.q q).sd.sr) HL.out (by have := HL.out; have := HN.out; omega) HZ.out)
  have HDG := hid (fun (u : World) (g0 g7 g8 : Nat) (q : Q w u) (c0 : ∃ fr, u.heap[g0]? = some (.cells tApC 5 fr)) (s7 : Seg u (some ⟨g7, 0, none⟩) (dg A.sd)) (b8 : u.heap[g8]? = some (.cells #[.slice (some ⟨g0, 0, none⟩) 11 11, .slice (some ⟨sb, 40, none⟩) 16 16, .slice (some ⟨g7, 0, none⟩) 16 16] 24 (0, 0))) =>
    show Calls Try.prog 68 #[.slice (some ⟨g8, 0, none⟩) 3 3] u fun e w' => e = .returned (.agg (u8s (raL A)).toArray) ∧ Q u w' from by
      have e3 : cat (tri tAp A.rt (dg A.sd)) 3 = tAp ++ (A.rt ++ dg A.sd) := by simp [cat, tri]
      have hrl := HF.out.rl
      have D := sdigest_any g8 3 3 (tri ⟨some ⟨g0, 0, none⟩, 11, 11⟩ ⟨some ⟨sb, 40, none⟩, 16, 16⟩ ⟨some ⟨g7, 0, none⟩, 16, 16⟩) (tri tAp A.rt (dg A.sd)) u (fun j hj => by
        rw [cell_of_row _ _ _ _ 24 (0, 0) b8]
        rcases (show j = 0 ∨ j = 1 ∨ j = 2 by omega) with rfl | rfl | rfl <;> rfl) (fun j hj => by
        rcases (show j = 0 ∨ j = 1 ∨ j = 2 by omega) with rfl | rfl | rfl
        · obtain ⟨fr, c0⟩ := c0
          exact ⟨seg_const (zs := tAp) c0, rfl⟩
        · exact ⟨seg_root (HF.out.q q), hrl⟩
        · exact ⟨s7, dg_len _⟩) (by omega) (by rw [e3, List.length_append, List.length_append, hrl, dg_len]; decide) (by rw [e3]; exact tAp_by.app (HRZ.out.app (dg_lt _)))
      rw [e3, HRA.out] at D
      exact D)
  generalize raL A = ds at *
  clear HRA
  go_enter Try.func51, Try.ntmps51
  go_upto_region 0 with fail
  generalize hR : Code.region 0 _ true = CC
  have eR : CC = Code.region 0 (RofN Try.f51 0) true := hR.symm.trans (by kernel_rfl)
  clear hR
  subst eR
  refine wp_region_noPanic ?_
  refine con0 sb (dg A.sd) ds w _ (fun c a d v w h => h) HRL.out HSU.out HDG.out (Q.refl w) ?_
  intro g0 g7 g8 tb w5 q5 b5 n5
  have F5 := hid (HF.out.q q5)
  have W5 := hid q5
  have B5 := hid b5
  clear q5 b5 n5
  refine NoPanic.normal ?_
  refine ‹∀ a w, Code.wp Try.prog _ _ a w → _› _ _ ?_
  have hinf := arr_info ds HRL.out
  have HSE := hid (secretsOf_new ds sCap sSap w5 HRL.out HAZ.out (by decide) (by decide))
  go_wp2_with (first
    | (refine wpList_load_row rfl 63 _ rfl tb rfl 63 _ (0, 0) _ B5.out Try.underlying63 rfl hinf ?_)
    | (go_at_call 70; refine HSE.out.mono ?_; rintro e w7 ⟨⟨xa, xn, xc⟩, ⟨ya, yn, yc⟩, rfl, q7, rx, ry, nx, ny⟩; have F7 := hid (F5.out.q q7); have Q7 := hid q7; have RX := hid rx; have RY := hid ry; have NX := hid nx; have NY := hid ny; have c58 := F7.out.sd.at_.appC; have c59 := F7.out.sd.at_.appS; have f58 := F7.out.sd.at_.free 58; have f59 := F7.out.sd.at_.free 59; clear q7 rx ry nx ny))
  have hlt6 := F5.out.sd.at_.lt
  have k8 : Keep (fun b => b = sb) w7 ((w7.setCell ⟨sb, 58, none⟩ (.slice xa xn xc)).setCell ⟨sb, 59, none⟩ (.slice ya yn yc)) := ((Keep.refl (fun b => b = sb) w7).setCell sb 58 _ (.inl rfl)).setCell sb 59 _ (.inl rfl)
  have a8 := F7.out.sd.at_.setApp ⟨xa, xn, xc⟩ ⟨ya, yn, yc⟩
  dsimp only at a8
  generalize World.setCell (World.setCell _ _ _) _ _ = w8 at *
  go_end0
  refine ⟨rfl, { S with appC := ⟨xa, xn, xc⟩, appS := ⟨ya, yn, yc⟩ }, ?_⟩
  have r8 := F7.out.re.keep k8 mut_sb (M' := Mut sb { S with appC := ⟨xa, xn, xc⟩, appS := ⟨ya, yn, yc⟩ } Fs) (fun b m => .inl ((mut_eq (S := S) rfl rfl rfl b).1 m))
  have hM : ∀ b, Mut sb { S with appC := ⟨xa, xn, xc⟩, appS := ⟨ya, yn, yc⟩ } Fs b → b < w5.heap.size := fun b m => (F5.out.mut ((mut_eq (S := S) rfl rfl rfl b).1 m)).2
  have nx : ∀ b, blk xa = some b → ¬ b = sb := fun b e => by have := NX.out b e; omega
  have ny : ∀ b, blk ya = some b → ¬ b = sb := fun b e => by have := NY.out b e; omega
  refine ⟨F7.out.cells a8 k8 rfl rfl rfl rfl rfl rfl ⟨r8.own, r8.wt, r8.fd, r8.rt, r8.hc, r8.hs, by rw [HAA.out]; exact RO.new (Sub.keep RX.out k8 nx) NX.out hM, by rw [HAA.out]; exact RO.new (Sub.keep RY.out k8 ny) NY.out hM, r8.pr, r8.pe⟩, ?_, fun b m => .inl ((mut_eq (S := S) rfl rfl rfl b).1 m), rfl⟩
  exact (Keep.ofQ W5.out).trans ((Keep.ofQ Q7.out).trans (k8.mono (fun i _ e => mut_sb i e)))
end Go.Proofs.Ytekpepnonhbkcaa
