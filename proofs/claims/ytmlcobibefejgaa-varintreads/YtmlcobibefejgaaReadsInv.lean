/-
  The state that the law VarintReads keeps round by round, and what keeps it. Nothing is proved of the statement here.
-/
import Derived.Test.YtmlcobibefejgaaAwake
import Derived.Test.YtmlcobibefejgaaRefReaderTwo
import Derived.Test.YtmlcobibefejgaaOpen
import Derived.Deep.SlicePairs
import Derived.Test.YtmlcobibefejgaaMathTwo
namespace Go.Proofs.Ytmlcobibefejgaa
open Go.ChangeShapes Go.WideShapes Go.ChangeAt Go.RowKit Go.Deep
set_option linter.unusedVariables false

/-- The calls that a script holds. -/
def SegP (w : World) (a : Option Addr) (len : Nat) (K N : Nat → Int) : Prop :=
  0 < len → ∃ b off, a = some ⟨b, off, none⟩ ∧ ∀ i, i < len → w.cell? ⟨b, off + i * 2, none⟩ = some (.int .i64 (K i)) ∧ w.cell? ⟨b, off + (i * 2 + 1), none⟩ = some (.int .i64 (N i))

theorem cells47 : Try.prog.cellsOf 47 = 2 := by kernel_rfl
theorem cells3' : Try.prog.cellsOf 3 = 1 := by kernel_rfl
theorem bytes47 : Try.prog.bytesOf 47 = 16 := by kernel_rfl

theorem open_ops {H : Type} {enc : TypeId × Value → H} {W : World} {a : Option Addr} {len cap : Nat} {d : DataW H} {p : List MemPlace}
    (h : DataW.Trod enc Try.prog W 0 (fun _ => true) true 40 (.slice a len cap) d p) :
    ∃ KN : (Nat → Int) × (Nat → Int), len ≤ cap ∧ SegP W a len KN.1 KN.2 ∧ True ∧ True ∧ (a = none → len = 0 ∧ cap = 0) ∧ (len = 0 ∨ ∃ elems spare, d = .slice elems spare ∧ len ≤ elems.length + spare.length) := by
  obtain ⟨fuel, hf⟩ := h
  rcases open_slice_pairs Try.underlying40 Try.underlying47 cells47 rfl rfl cells3' cells3' hf with ⟨hcs, _⟩ | ⟨x, l, c, m, n, V0, V1, D0, D1, P0, P1, hcs, _, hl, hm, hmm, hx, hcell⟩
  · simp [Value.cells] at hcs
    obtain ⟨rfl, rfl, rfl⟩ := hcs
    exact ⟨(fun _ => 0, fun _ => 0), Nat.le_refl _, fun h => absurd h (by omega), trivial, trivial, fun _ => ⟨rfl, rfl⟩, .inl rfl⟩
  · simp [Value.cells] at hcs
    obtain ⟨rfl, rfl, rfl⟩ := hcs
    simp only [Prod.mk.injEq] at hx
    obtain ⟨rfl, _⟩ := hx
    have hm' : m = cap := by simpa using hmm
    have e : ∀ i, i < len → ∃ q : Int × Int, V0 i = .int .i64 q.1 ∧ V1 i = .int .i64 q.2 := by
      intro i hi
      obtain ⟨_, _, h0, h1⟩ := hcell i (by omega)
      obtain ⟨n0, e0, _, _⟩ := DataW.trod_int Try.underlying3 h0
      obtain ⟨n1, e1, _, _⟩ := DataW.trod_int Try.underlying3 h1
      simp only [List.cons.injEq, and_true] at e0 e1
      exact ⟨(n0, n1), e0, e1⟩
    obtain ⟨f, hf'⟩ := choose_lt e
    refine ⟨(fun i => (f i).1, fun i => (f i).2), hl, ?_, trivial, trivial, (fun h => by cases h), .inr ⟨_, _, rfl, by simp⟩⟩
    intro hlen
    obtain ⟨b, off, spot⟩ := x
    have hc := (hcell 0 (by omega)).1
    have hspot : spot = none := by simpa [Addr.add] using World.cell?_spot hc
    subst hspot
    refine ⟨b, off, rfl, fun i hi => ?_⟩
    obtain ⟨h0, h1, _, _⟩ := hcell i (by omega)
    rw [addr_add] at h0 h1
    rw [h0, h1, (hf' i hi).1, (hf' i hi).2]
    exact ⟨rfl, rfl⟩

theorem len_le_ops {H : Type} {ts : List TypeId} {ds : List (DataW H)} {j len : Nat} {d : DataW H} (hsz : (DataW.weightsEach Try.prog ts ds).all (· ≤ reachBytes) = true) (ht : ts[j]? = some 40) (hd : ds[j]? = some d)
    (h : len = 0 ∨ ∃ elems spare, d = .slice elems spare ∧ len ≤ elems.length + spare.length) : len * 16 ≤ 140737488351232 := by
  rcases h with rfl | ⟨elems, spare, rfl, h⟩
  · omega
  · have := sized_slice hsz (j := j) (t := 40) (e := 47) ht hd Try.underlying40
    rw [bytes47] at this
    simp only [reachBytes] at this
    omega

/-- What holds between two calls of the script: both readers stand at one place with one fault, over the same bytes. -/
structure Inv (w wr : World) (rb rc g : Nat) (a : Option Addr) (n c : Nat) (zs : List Int) (p f : Int) : Prop where
  below : Below w.heap.size w wr
  r1 : Rdr wr 57 rb (some ⟨g, 0, none⟩) n n p f
  r2 : Rdr wr 45 rc a n c p f
  s1 : Seg wr (some ⟨g, 0, none⟩) zs
  p0 : 0 ≤ p
  p1 : p ≤ n

/-- What never turns. -/
structure Fix (w : World) (rb rc g : Nat) (a : Option Addr) (n c : Nat) (zs : List Int) : Prop where
  len : zs.length = n
  cap : n ≤ c
  most : n ≤ 140737488351232
  byte : ∀ y ∈ zs, 0 ≤ y ∧ y < 256
  seg : Seg w a zs
  hb : w.heap.size ≤ rb
  hc : w.heap.size ≤ rc
  hg : w.heap.size ≤ g
  bc : rb ≠ rc
  gb : g ≠ rb
  gc : g ≠ rc

variable {w wr wx : World} {rb rc g : Nat} {a : Option Addr} {n c : Nat} {zs : List Int} {p f : Int}

theorem Inv.so1 (h : Inv w wr rb rc g a n c zs p f) (F : Fix w rb rc g a n c zs) : SegOff rb wr (some ⟨g, 0, none⟩) zs := ⟨h.s1, fun _ ad e => by cases e; exact F.gb⟩
theorem Inv.so2 (h : Inv w wr rb rc g a n c zs p f) (F : Fix w rb rc g a n c zs) : SegOff rc wr a zs := by
  have hs : Seg wr a zs := F.seg.q h.below
  refine ⟨hs, fun hne ad e => ?_⟩
  obtain ⟨b, off, ha, hcell⟩ := F.seg hne
  rw [ha] at e
  cases e
  have hp : 0 < zs.length := by
    cases zs with
    | nil => exact absurd rfl hne
    | cons x r => simp
  have := lt_of_cell (hcell 0 hp)
  have := F.hc
  show b ≠ rc
  omega

/-- A turn of blocks that are new keeps it. -/
theorem Inv.q (h : Inv w wr rb rc g a n c zs p f) (k : Q wr wx) : Inv w wx rb rc g a n c zs p f :=
  ⟨Q.trans h.below k, h.r1.q k, h.r2.q k, h.s1.q k, h.p0, h.p1⟩
theorem Inv.only (h : Inv w wr rb rc g a n c zs p f) {x : Nat} (k : Only x wr wx) (hx : w.heap.size ≤ x) (xb : rb ≠ x) (xc : rc ≠ x) (xg : g ≠ x) : Inv w wx rb rc g a n c zs p f :=
  ⟨k.below h.below hx h.below.size, h.r1.only k xb, h.r2.only k xc, ((show SegOff x wr (some ⟨g, 0, none⟩) zs from ⟨h.s1, fun _ ad e => by cases e; exact xg⟩).only k).1, h.p0, h.p1⟩

theorem Inv.only_new (h : Inv w wr rb rc g a n c zs p f) {x : Nat} (k : Only x wr wx) (hx : w.heap.size ≤ x) (xb : rb ≠ x) (xc : rc ≠ x) (xg : zs ≠ [] → g ≠ x) : Inv w wx rb rc g a n c zs p f :=
  ⟨k.below h.below hx h.below.size, h.r1.only k xb, h.r2.only k xc, ((show SegOff x wr (some ⟨g, 0, none⟩) zs from ⟨h.s1, fun hne ad e => by cases e; exact xg hne⟩).only k).1, h.p0, h.p1⟩

/-- Both readers have gone on. -/
theorem Inv.step {w1 w2 : World} {p' f' : Int} (h : Inv w wr rb rc g a n c zs p f) (F : Fix w rb rc g a n c zs) (k1 : Only rb wr w1) (q1 : Rdr w1 57 rb (some ⟨g, 0, none⟩) n n p' f') (k2 : Only rc w1 w2) (q2 : Rdr w2 45 rc a n c p' f')
    (hp : 0 ≤ p') (hp' : p' ≤ n) : Inv w w2 rb rc g a n c zs p' f' := by
  have b1 : Below w.heap.size w w1 := k1.below h.below F.hb h.below.size
  refine ⟨k2.below b1 F.hc b1.size, q1.only k2 F.bc, q2, ?_, hp, hp'⟩
  exact (((h.so1 F).only k1).other k2 (fun _ ad e => by cases e; exact F.gc)).1

theorem Inv.mid2 {w1 : World} {p' f' : Int} (h : Inv w wr rb rc g a n c zs p f) (F : Fix w rb rc g a n c zs) (k1 : Only rb wr w1) : Rdr w1 45 rc a n c p f ∧ SegOff rc w1 a zs := by
  refine ⟨h.r2.only k1 (Ne.symm F.bc), ?_⟩
  refine (h.so2 F).other k1 ?_
  intro hne ad e
  obtain ⟨b, off, ha, hcell⟩ := F.seg hne
  rw [ha] at e
  cases e
  have hp : 0 < zs.length := by
    cases zs with
    | nil => exact absurd rfl hne
    | cons x r => simp
  have := lt_of_cell (hcell 0 hp)
  have := F.hb
  show b ≠ rb
  omega

theorem numR_len (zs : List Int) (p f : Int) (hp : 0 ≤ p) (hpn : p ≤ zs.length) : 0 ≤ (numR zs p f).2.1 ∧ (numR zs p f).2.1 ≤ zs.length := by
  unfold numR
  by_cases hf : f = 0
  · rw [if_pos hf]
    by_cases he : (rd zs p).2.2 = 0
    · rw [if_pos he]
      obtain ⟨k, rfl⟩ := Int.eq_ofNat_of_zero_le hp
      have e : rd zs k = rdAt (zs.drop k) k := by rw [rd, if_neg (by omega), Int.toNat_natCast]
      obtain ⟨t, ht⟩ : ∃ t, rd zs (k : Int) = t := ⟨_, rfl⟩
      obtain ⟨m, q, er⟩ := t
      rw [ht] at he e ⊢
      simp only at he ⊢
      subst he
      rcases rdAt_ok e.symm with ⟨_, x, r, hd, hw, _, hq⟩ | ⟨h0, _⟩
      · have hlen : (zs.drop k).length = zs.length - k := List.length_drop
        omega
      · omega
    · rw [if_neg he]; exact ⟨hp, hpn⟩
  · rw [if_neg hf]; exact ⟨hp, hpn⟩

theorem drewN_drewN (w : World) (i j : Nat) : (w.drewN i).drewN j = w.drewN (i + j) := by simp [World.drewN, Nat.add_assoc]

theorem chk_at (h : Inv w wr rb rc g a n c zs p f) (k : Nat) : Calls Try.prog 26 #[.pointer (some ⟨rb, 0, none⟩)] (wr.drewN k) fun e w' => e = .returned (.int .i64 p) ∧ w' = wr.drewN k :=
  (at_any rb _ n n p f (wr.drewN k) (h.r1.drewN k)).mono (by rintro e w' ⟨rfl, rfl⟩; exact ⟨rfl, rfl⟩)
theorem chk_fault (h : Inv w wr rb rc g a n c zs p f) (k : Nat) : Calls Try.prog 29 #[.pointer (some ⟨rb, 0, none⟩)] (wr.drewN k) fun e w' => e = .returned (.int .i64 f) ∧ w' = wr.drewN k :=
  (fault_any rb _ n n p f (wr.drewN k) (h.r1.drewN k)).mono (by rintro e w' ⟨rfl, rfl⟩; exact ⟨rfl, rfl⟩)
theorem chk_left (h : Inv w wr rb rc g a n c zs p f) (F : Fix w rb rc g a n c zs) (k : Nat) : Calls Try.prog 27 #[.pointer (some ⟨rb, 0, none⟩)] (wr.drewN k) fun e w' => e = .returned (.int .i64 (if f = 0 then (n : Int) - p else 0)) ∧ ∃ m, w' = wr.drewN m :=
  (left_any rb _ n n p f (wr.drewN k) (by have := F.most; omega) h.p0 h.p1 (h.r1.drewN k)).mono (by rintro e w' ⟨rfl, j, rfl⟩; exact ⟨rfl, _, drewN_drewN _ _ _⟩)
theorem chk_rleft (h : Inv w wr rb rc g a n c zs p f) (F : Fix w rb rc g a n c zs) (k : Nat) : Calls Try.prog 28 #[.pointer (some ⟨rc, 0, none⟩)] (wr.drewN k) fun e w' => e = .returned (.int .i64 (if f = 0 then (n : Int) - p else 0)) ∧ ∃ m, w' = wr.drewN m :=
  (rleft_any rc _ n c p f (wr.drewN k) (by have := F.most; omega) h.p0 h.p1 (h.r2.drewN k)).mono (by rintro e w' ⟨rfl, j, rfl⟩; exact ⟨rfl, _, drewN_drewN _ _ _⟩)

end Go.Proofs.Ytmlcobibefejgaa
