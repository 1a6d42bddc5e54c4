/-
  A reading in memory, and what its number, one, some and mustGoOn do: contracts that the statements' walks use.
-/
import Derived.Test.YtdoodbaogmdloabEncTwo
namespace Go.Proofs.Ytdoodbaogmdloab
open Go.RowKit
set_option linter.unusedVariables false
set_option maxRecDepth 20000

/-- What a reading comes to: an item and the place behind it, or why it ends. -/
inductive Out (α : Type) where
  | ok (a : α) (q : Int)
  | cut
  | bad (x : Int)
def Out.bind {α β : Type} (o : Out α) (f : α → Int → Out β) : Out β :=
  match o with
  | .ok a q => f a q
  | .cut => .cut
  | .bad x => .bad x
def Out.stop {α : Type} (o : Out α) : Prop := ∀ a q, o ≠ .ok a q
def cutP : PanicEntry := { v := .iface 57 (.agg #[]), recovered := false }
def refP (x : Int) : PanicEntry := { v := .iface 59 (.agg #[.int .i64 x]), recovered := false }
/-- What is panicked with. -/
def Out.ends {α : Type} (o : Out α) : List PanicEntry :=
  match o with
  | .ok _ _ => []
  | .cut => [cutP]
  | .bad x => [refP x]
theorem Out.bind_stop {α β : Type} {o : Out α} (h : o.stop) (f : α → Int → Out β) : (o.bind f).stop ∧ (o.bind f).ends = o.ends := by
  cases o with
  | ok a q => exact absurd rfl (h a q)
  | cut => exact ⟨(by intro a q e; cases e), rfl⟩
  | bad x => exact ⟨(by intro a q e; cases e), rfl⟩
theorem stop_cut {α : Type} : (Out.cut : Out α).stop := by intro a q e; cases e
theorem stop_bad {α : Type} (x : Int) : (Out.bad x : Out α).stop := by intro a q e; cases e

def numO (zs : List Int) (p : Int) : Out Int := if (rd zs p).2.2 = 0 then .ok (rd zs p).1 (rd zs p).2.1 else .cut
def someO (zs : List Int) (p k : Int) : Out (List Int) := if (takeR zs p 0 k).2.2 = 0 then .ok (takeR zs p 0 k).1 (takeR zs p 0 k).2.1 else .cut
def oneO (zs : List Int) (p : Int) : Out Int := if (takeR zs p 0 1).2.2 = 0 then .ok ((takeR zs p 0 1).1.getD 0 0) (takeR zs p 0 1).2.1 else .cut

/-- A reading: its bytes, its reader, its place. -/
structure Rg (w : World) (rk rb g : Nat) (b : Sv) (zs : List Int) (pl p : Int) : Prop where
  hd : w.heap[rk]? = some (.cells #[.slice b.a b.n b.c, .pointer (some ⟨rb, 0, none⟩), .int .i64 pl] 55 (0, 0))
  rdr : Rdr w 74 rb (some ⟨g, 0, none⟩) b.n b.n p 0
  row : w.heap[g]? = some (.cells (u8s zs).toArray 5 (0, 0))
  seg : Seg w b.a zs
  len : zs.length = b.n
  by_ : ∀ y ∈ zs, 0 ≤ y ∧ y < 256
  small : b.n ≤ 16384
  d1 : rk ≠ rb
  d2 : g ≠ rb
  d3 : g ≠ rk
  d4 : ∀ x, blk b.a = some x → x ≠ rb ∧ x ≠ rk
  d5 : ∀ x, blk b.a = some x → x < w.heap.size
  p0 : 0 ≤ p
  p1 : p ≤ b.n
section
variable {w w' : World} {rk rb g : Nat} {b : Sv} {zs : List Int} {pl p : Int}
theorem Rg.c0 (h : Rg w rk rb g b zs pl p) : w.cell? ⟨rk, 0, none⟩ = some (.slice b.a b.n b.c) := by rw [cell_of_row w rk 0 _ 55 (0, 0) h.hd]; rfl
theorem Rg.c1 (h : Rg w rk rb g b zs pl p) : w.cell? ⟨rk, 1, none⟩ = some (.pointer (some ⟨rb, 0, none⟩)) := by rw [cell_of_row w rk 1 _ 55 (0, 0) h.hd]; rfl
theorem Rg.c2 (h : Rg w rk rb g b zs pl p) : w.cell? ⟨rk, 2, none⟩ = some (.int .i64 pl) := by rw [cell_of_row w rk 2 _ 55 (0, 0) h.hd]; rfl
theorem Rg.free (h : Rg w rk rb g b zs pl p) (j : Nat) : w.frozen? ⟨rk, j, none⟩ = false := frozen_of_row w rk j _ 55 h.hd
theorem Rg.lt (h : Rg w rk rb g b zs pl p) : rk < w.heap.size := lt_of_block h.hd
theorem Rg.keep {F : Nat → Prop} (h : Rg w rk rb g b zs pl p) (k : Keep F w w') (f1 : ¬ F rk) (f2 : ¬ F rb) (f3 : ¬ F g) (f4 : ∀ x, blk b.a = some x → ¬ F x) : Rg w' rk rb g b zs pl p :=
  ⟨(k.block rk h.lt f1).trans h.hd, (k.block rb h.rdr.lt f2).trans h.rdr, (k.block g (lt_of_block h.row) f3).trans h.row, h.seg.keep k f4, h.len, h.by_, h.small, h.d1, h.d2, h.d3, h.d4, fun x e => Nat.lt_of_lt_of_le (h.d5 x e) k.size, h.p0, h.p1⟩
theorem Rg.q (h : Rg w rk rb g b zs pl p) (k : Q w w') : Rg w' rk rb g b zs pl p := h.keep (Keep.ofQ (F := fun _ => False) k) id id id (fun _ _ => id)
theorem Only.keep {a c : World} (h : Only rb a c) : Keep (fun k => k = rb) a c := Keep.ofGrown h (fun k e => by cases e; rfl)
theorem Rg.turn (h : Rg w rk rb g b zs pl p) (o : Keep (fun k => k = rb) w w') {q : Int} (r : Rdr w' 74 rb (some ⟨g, 0, none⟩) b.n b.n q 0) (q0 : 0 ≤ q) (q1 : q ≤ b.n) : Rg w' rk rb g b zs pl q :=
  ⟨(o.block rk h.lt h.d1).trans h.hd, r, (o.block g (lt_of_block h.row) h.d2).trans h.row, h.seg.keep o (fun x e => (h.d4 x e).1), h.len, h.by_, h.small, h.d1, h.d2, h.d3, h.d4, fun x e => Nat.lt_of_lt_of_le (h.d5 x e) o.size, q0, q1⟩
/-- .. where blocks turn that are newer than the reading. -/
theorem Rg.keepNew {F : Nat → Prop} {w0 : World} {p' : Int} (h : Rg w rk rb g b zs pl p) (k : Keep F w w') (h0 : Rg w0 rk rb g b zs pl p') (hF : ∀ i, F i → w0.heap.size ≤ i) : Rg w' rk rb g b zs pl p :=
  h.keep k (fun f => by have := hF _ f; have := h0.lt; omega) (fun f => by have := hF _ f; have := h0.rdr.lt; omega) (fun f => by have := hF _ f; have := lt_of_block h0.row; omega) (fun x e f => by have := hF _ f; have := h0.d5 x e; omega)
theorem Rg.off (h : Rg w rk rb g b zs pl p) : SegOff rb w (some ⟨g, 0, none⟩) zs := by
  refine ⟨fun hne => ⟨g, 0, rfl, fun i hi => ?_⟩, fun _ ad e => by cases e; exact h.d2⟩
  rw [cell_of_row w g (0 + i) _ 5 (0, 0) h.row, Nat.zero_add]
  simp [List.getD_eq_getElem?_getD, hi]
end
theorem Keep.old {rb : Nat} {F : Nat → Prop} {w w1 w2 : World} (h : Keep (fun k => k = rb) w w1) (k : Keep F w1 w2) (hF : ∀ i, F i → i = rb ∨ w.heap.size ≤ i) : Keep (fun k => k = rb) w w2 :=
  h.trans' k (fun i hi f => by rcases hF i f with h | h; exact h; omega)

/-- What a call of a reading tells. -/
def Ans {α : Type} (w : World) (rk rb g : Nat) (b : Sv) (zs : List Int) (pl : Int) (V : α → World → Value → Prop) (o : Out α) (e : Ending) (w' : World) : Prop :=
  Keep (fun k => k = rb) w w' ∧ ((∃ a q v, o = .ok a q ∧ e = .returned v ∧ V a w' v ∧ Rg w' rk rb g b zs pl q) ∨ (o.stop ∧ e = .panicked o.ends))

theorem rd_range {zs : List Int} {p m q e : Int} (hz : ∀ y ∈ zs, 0 ≤ y ∧ y < 256) (hp : 0 ≤ p) (hpl : p ≤ zs.length) (h : rd zs p = (m, q, e)) (he : e = 0) : p < q ∧ q ≤ zs.length ∧ 0 ≤ m ∧ m ≤ 4611686018427387903 := by
  subst he
  unfold rd at h
  rw [if_neg (by omega)] at h
  rcases rdAt_ok h with ⟨_, x, r, hl, hw, rfl, rfl⟩ | ⟨h, _⟩
  · have hd : ∀ y ∈ x :: r, 0 ≤ y ∧ y < 256 := fun y hy => hz y (List.mem_of_mem_drop (hl ▸ hy))
    have hx := hd x (by simp)
    have hwp : 0 < width x := by rcases width_cases hx.1 hx.2 with h | h | h | h <;> omega
    have := least hd (by rw [hl] at hw; exact hw)
    have hlen : (zs.drop p.toNat).length = zs.length - p.toNat := by simp
    rw [hlen] at hw
    refine ⟨by omega, by omega, this.1, this.2.1⟩
  · omega

theorem take_range {zs : List Int} {p k : Int} (hp : 0 ≤ p) (hpl : p ≤ zs.length) (h : (takeR zs p 0 k).2.2 = 0) : 0 ≤ k ∧ (takeR zs p 0 k) = ((zs.drop p.toNat).take k.toNat, p + k, 0) ∧ p + k ≤ zs.length := by
  unfold takeR at h ⊢
  rw [if_neg (by simp)] at h ⊢
  by_cases h1 : k < 0
  · rw [if_pos h1] at h; simp at h
  rw [if_neg h1] at h ⊢
  by_cases h2 : (zs.length : Int) - p < k
  · rw [if_pos h2] at h; simp at h
  · rw [if_neg h2]; exact ⟨by omega, rfl, by omega⟩

section
variable (rk rb g : Nat) (b : Sv) (zs : List Int) (pl p : Int) (w : World)

set_option maxHeartbeats 400000 in
theorem must_ok (hc : w.cell? ⟨rk, 1, none⟩ = some (.pointer (some ⟨rb, 0, none⟩))) (a : Option Addr) (n c : Nat) (hr : Rdr w 74 rb a n c p 0) : Calls Try.prog 63 #[.pointer (some ⟨rk, 0, none⟩)] w fun e w' => e = .returned (.tuple #[]) ∧ w = w' := by
  have HR := hid hr
  clear hr
  go_enter Try.func63, Try.ntmps63
  go_wp2_with fail
  refine (fault_any rb a n c p 0 _ HR.out).mono ?_
  rintro e w' ⟨rfl, rfl⟩
  go_wp2
  go_end0
  exact ⟨rfl, rfl⟩
set_option maxHeartbeats 400000 in
theorem must_no (f : Int) (hf : f ≠ 0) (hc : w.cell? ⟨rk, 1, none⟩ = some (.pointer (some ⟨rb, 0, none⟩))) (a : Option Addr) (n c : Nat) (hr : Rdr w 74 rb a n c p f) : Calls Try.prog 63 #[.pointer (some ⟨rk, 0, none⟩)] w fun e w' => e = .panicked [cutP] ∧ w = w' := by
  have HR := hid hr
  have hb : (f != 0) = true := by simp [hf]
  clear hr hf
  go_enter Try.func63, Try.ntmps63
  go_wp2_with fail
  refine (fault_any rb a n c p f _ HR.out).mono ?_
  rintro e w' ⟨rfl, rfl⟩
  go_wp2
  exact ⟨rfl, rfl, rfl⟩

set_option maxHeartbeats 400000 in
theorem number_at (h : Rg w rk rb g b zs pl p) : Calls Try.prog 52 #[.pointer (some ⟨rk, 0, none⟩)] w fun e w' => Ans w rk rb g b zs pl (fun m w' v => v = .int .i64 m) (numO zs p) e w' := by
  have c1 := h.c1
  have HH := hid h
  clear h
  go_enter Try.func52, Try.ntmps52
  go_wp2_with fail
  refine (number_any rb _ b.n b.n zs p 0 w HH.out.len (by have := HH.out.small; omega) HH.out.by_ HH.out.off HH.out.rdr).mono ?_
  rintro e w1 ⟨rfl, ho, hr⟩
  have hk := ho.keep
  have c1' : w1.cell? ⟨rk, 1, none⟩ = some (.pointer (some ⟨rb, 0, none⟩)) := hk.cell c1 HH.out.d1
  unfold numR at hr ⊢
  rw [if_pos rfl] at hr ⊢
  obtain ⟨⟨m, q, f⟩, hx⟩ : ∃ x, rd zs p = x := ⟨_, rfl⟩
  rw [hx] at hr ⊢
  dsimp only at hr ⊢
  by_cases hf : f = 0
  · rw [if_pos hf] at hr ⊢
    dsimp only at hr ⊢
    have hrange := rd_range HH.out.by_ HH.out.p0 (by rw [HH.out.len]; exact HH.out.p1) hx hf
    rw [HH.out.len] at hrange
    have HA := hid (show Ans w rk rb g b zs pl (fun m w' v => v = .int .i64 m) (numO zs p) (.returned (.int .i64 m)) w1 from
      ⟨hk, .inl ⟨m, q, _, by unfold numO; rw [hx]; dsimp only; rw [if_pos hf], rfl, rfl, HH.out.turn hk hr (by have := HH.out.p0; omega) hrange.2.1⟩⟩)
    have HR := hid hr
    clear ho hr hk hx hf hrange
    go_wp2_with fail
    refine (must_ok rk rb q _ c1' _ _ _ HR.out).mono ?_
    rintro e w2 ⟨rfl, rfl⟩
    go_wp2
    go_ret
    exact HA.out
  · rw [if_neg hf] at hr ⊢
    dsimp only at hr ⊢
    have HA := hid (show Ans w rk rb g b zs pl (fun m w' v => v = .int .i64 m) (numO zs p) (.panicked [cutP]) w1 from
      ⟨hk, .inr (by have e : numO zs p = .cut := by unfold numO; rw [hx]; dsimp only; rw [if_neg hf]
                    rw [e]; exact ⟨stop_cut, rfl⟩)⟩)
    have HR := hid hr
    have HF := hid hf
    clear ho hr hk hx hf
    go_wp2_with fail
    refine (must_no rk rb p _ f HF.out c1' _ _ _ HR.out).mono ?_
    rintro e w2 ⟨rfl, rfl⟩
    exact ⟨rfl, HA.out⟩
set_option maxHeartbeats 400000 in
theorem one_at (h : Rg w rk rb g b zs pl p) : Calls Try.prog 54 #[.pointer (some ⟨rk, 0, none⟩)] w fun e w' => Ans w rk rb g b zs pl (fun m w' v => v = .int .i64 m) (oneO zs p) e w' := by
  have c1 := h.c1
  have HH := hid h
  clear h
  go_enter Try.func54, Try.ntmps54
  go_wp2_with fail
  refine (byte_any rb _ b.n b.n zs p 0 w HH.out.len (by have := HH.out.small; omega) (Nat.le_refl _) HH.out.p0 HH.out.p1 HH.out.by_ HH.out.off HH.out.rdr).mono ?_
  rintro e w1 ⟨rfl, ho, hr⟩
  have hk := ho.keep
  have c1' : w1.cell? ⟨rk, 1, none⟩ = some (.pointer (some ⟨rb, 0, none⟩)) := hk.cell c1 HH.out.d1
  have HT := hid (take_range (k := 1) HH.out.p0 (show p ≤ zs.length by rw [HH.out.len]; exact HH.out.p1))
  obtain ⟨⟨bs, q, f⟩, hx⟩ : ∃ x, takeR zs p 0 1 = x := ⟨_, rfl⟩
  rw [hx] at hr HT ⊢
  dsimp only at hr HT ⊢
  by_cases hf : f = 0
  · have hrange := HT.out hf
    simp only [Prod.mk.injEq] at hrange
    have HA := hid (show Ans w rk rb g b zs pl (fun m w' v => v = .int .i64 m) (oneO zs p) (.returned (.int .i64 (bs.getD 0 0))) w1 from
      ⟨hk, .inl ⟨_, q, _, by unfold oneO; rw [hx]; dsimp only; rw [if_pos hf], rfl, rfl, HH.out.turn hk (by rw [hf] at hr; exact hr) (by have := HH.out.p0; omega) (by rw [← HH.out.len]; omega)⟩⟩)
    have HR := hid hr
    rw [hf] at HR
    clear ho hr hk hx hf hrange
    go_wp2_with fail
    refine (must_ok rk rb q _ c1' _ _ _ HR.out).mono ?_
    rintro e w2 ⟨rfl, rfl⟩
    go_wp2
    go_ret
    exact HA.out
  · have HA := hid (show Ans w rk rb g b zs pl (fun m w' v => v = .int .i64 m) (oneO zs p) (.panicked [cutP]) w1 from
      ⟨hk, .inr (by have e : oneO zs p = .cut := by unfold oneO; rw [hx]; dsimp only; rw [if_neg hf]
                    rw [e]; exact ⟨stop_cut, rfl⟩)⟩)
    have HR := hid hr
    have HF := hid hf
    clear ho hr hk hx hf
    go_wp2_with fail
    refine (must_no rk rb q _ f HF.out c1' _ _ _ HR.out).mono ?_
    rintro e w2 ⟨rfl, rfl⟩
    exact ⟨rfl, HA.out⟩
/-- A slice that a call made, with these bytes. -/
def NewB (B : Nat) (zs : List Int) (w' : World) (v : Value) : Prop := ∃ r : Sv, v = .slice r.a r.n r.c ∧ Row w' r zs ∧ New B r
set_option maxHeartbeats 400000 in
theorem some_at (k : Int) (h : Rg w rk rb g b zs pl p) : Calls Try.prog 53 #[.pointer (some ⟨rk, 0, none⟩), .int .i64 k] w fun e w' => Ans w rk rb g b zs pl (NewB w.heap.size) (someO zs p k) e w' := by
  have c1 := h.c1
  have HH := hid h
  clear h
  go_enter Try.func53, Try.ntmps53
  go_wp2_with fail
  refine (bytes_any rb _ b.n b.n zs p 0 k w HH.out.len (by have := HH.out.small; omega) (Nat.le_refl _) HH.out.p0 HH.out.p1 HH.out.off HH.out.rdr).mono ?_
  rintro e w1 ⟨g', m', rfl, ho, hr, hown, hm⟩
  have hk := ho.keep
  have c1' : w1.cell? ⟨rk, 1, none⟩ = some (.pointer (some ⟨rb, 0, none⟩)) := hk.cell c1 HH.out.d1
  have HT := hid (take_range (k := k) HH.out.p0 (show p ≤ zs.length by rw [HH.out.len]; exact HH.out.p1))
  obtain ⟨⟨bs, q, f⟩, hx⟩ : ∃ x, takeR zs p 0 k = x := ⟨_, rfl⟩
  rw [hx] at hr HT hown
  dsimp only at hr HT hown
  by_cases hf : f = 0
  · have hrange := HT.out hf
    simp only [Prod.mk.injEq] at hrange
    have HA := hid (show Ans w rk rb g b zs pl (NewB w.heap.size) (someO zs p k) (.returned (.slice (some ⟨g', 0, none⟩) m' m')) w1 from
      ⟨hk, .inl ⟨bs, q, _, by unfold someO; rw [hx]; dsimp only; rw [if_pos hf], rfl, ⟨⟨some ⟨g', 0, none⟩, m', m'⟩, rfl, hown.row (by simp), by intro x hx; cases hx; exact (hown.lt g' rfl).1⟩, HH.out.turn hk (by rw [hf] at hr; exact hr) (by have := HH.out.p0; omega) (by rw [← HH.out.len]; omega)⟩⟩)
    have HR := hid hr
    rw [hf] at HR
    clear ho hr hk hx hf hrange hown
    go_wp2_with fail
    refine (must_ok rk rb q _ c1' _ _ _ HR.out).mono ?_
    rintro e w2 ⟨rfl, rfl⟩
    go_wp2
    go_ret
    exact HA.out
  · have HA := hid (show Ans w rk rb g b zs pl (NewB w.heap.size) (someO zs p k) (.panicked [cutP]) w1 from
      ⟨hk, .inr (by have e : someO zs p k = .cut := by unfold someO; rw [hx]; dsimp only; rw [if_neg hf]
                    rw [e]; exact ⟨stop_cut, rfl⟩)⟩)
    have HR := hid hr
    have HF := hid hf
    clear ho hr hk hx hf hown
    go_wp2_with fail
    refine (must_no rk rb q _ f HF.out c1' _ _ _ HR.out).mono ?_
    rintro e w2 ⟨rfl, rfl⟩
    exact ⟨rfl, HA.out⟩
end
end Go.Proofs.Ytdoodbaogmdloab
