/-
  A header as plain data, what its words in memory are, and what reading one comes to. Nothing is proved of a statement here.
-/
import Derived.Test.YtnnjogfpapndaaaMem
import Derived.Test.YtnnjogfpapndaaaMathTwo
import Derived.Test.YtnnjogfpapndaaaReaderTwo
import Derived.Laws.Tables
import Derived.BigQuiet
import Derived.Deep.QuietTactic
namespace Go.Proofs.Ytnnjogfpapndaaa
open Go.RowKit
set_option linter.unusedVariables false
set_option maxRecDepth 20000

/-- A header. -/
structure Hd where
  kind : Int
  ver : Int
  dst : List Int
  src : List Int
  tok : List Int
  vers : List Int
  len : Int
def zh : Hd := ⟨0, 0, [], [], [], [], 0⟩
/-- Its words. -/
abbrev hcells (h : Hd) (d s t v : Sv) : Array Value := #[.int .i64 h.kind, .int .i64 h.ver, .slice d.a d.n d.c, .slice s.a s.n s.c, .slice t.a t.n t.c, .slice v.a v.n v.c, .int .i64 h.len]
abbrev hv (h : Hd) (d s t v : Sv) : Value := .agg (hcells h d s t v)
/-- A block that holds it. -/
def Box (w : World) (ty hb : Nat) (h : Hd) (d s t v : Sv) : Prop := w.heap[hb]? = some (.cells (hcells h d s t v) ty (0, 0))
section
variable {w w' : World} {ty hb : Nat} {h : Hd} {d s t v : Sv}
theorem Box.lt (x : Box w ty hb h d s t v) : hb < w.heap.size := lt_of_block x
theorem Box.c0 (x : Box w ty hb h d s t v) : w.cell? ⟨hb, 0, none⟩ = some (.int .i64 h.kind) := by rw [cell_of_row w hb 0 _ ty (0, 0) x]; rfl
theorem Box.c1 (x : Box w ty hb h d s t v) : w.cell? ⟨hb, 1, none⟩ = some (.int .i64 h.ver) := by rw [cell_of_row w hb 1 _ ty (0, 0) x]; rfl
theorem Box.c2 (x : Box w ty hb h d s t v) : w.cell? ⟨hb, 2, none⟩ = some (.slice d.a d.n d.c) := by rw [cell_of_row w hb 2 _ ty (0, 0) x]; rfl
theorem Box.c3 (x : Box w ty hb h d s t v) : w.cell? ⟨hb, 3, none⟩ = some (.slice s.a s.n s.c) := by rw [cell_of_row w hb 3 _ ty (0, 0) x]; rfl
theorem Box.c4 (x : Box w ty hb h d s t v) : w.cell? ⟨hb, 4, none⟩ = some (.slice t.a t.n t.c) := by rw [cell_of_row w hb 4 _ ty (0, 0) x]; rfl
theorem Box.c5 (x : Box w ty hb h d s t v) : w.cell? ⟨hb, 5, none⟩ = some (.slice v.a v.n v.c) := by rw [cell_of_row w hb 5 _ ty (0, 0) x]; rfl
theorem Box.c6 (x : Box w ty hb h d s t v) : w.cell? ⟨hb, 6, none⟩ = some (.int .i64 h.len) := by rw [cell_of_row w hb 6 _ ty (0, 0) x]; rfl
theorem Box.free (x : Box w ty hb h d s t v) (j : Nat) : w.frozen? ⟨hb, j, none⟩ = false := frozen_of_row w hb j _ ty x
theorem Box.keep {F : Nat → Prop} (x : Box w ty hb h d s t v) (k : Keep F w w') (f : ¬ F hb) : Box w' ty hb h d s t v := (k.block hb x.lt f).trans x
theorem Box.q (x : Box w ty hb h d s t v) (k : Q w w') : Box w' ty hb h d s t v := x.keep (Keep.ofQ (F := fun _ => False) k) id
theorem Box.kind_ (x : Box w ty hb h d s t v) (y : Int) : Box (w.setCell ⟨hb, 0, none⟩ (.int .i64 y)) ty hb { h with kind := y } d s t v := by
  have := heap_setCell_same w hb 0 _ ty (.int .i64 y) x
  simpa [Box] using this
theorem Box.dst_ (x : Box w ty hb h d s t v) (y : Sv) (l : List Int) : Box (w.setCell ⟨hb, 2, none⟩ (.slice y.a y.n y.c)) ty hb { h with dst := l } y s t v := by
  have := heap_setCell_same w hb 2 _ ty (.slice y.a y.n y.c) x
  simpa [Box] using this
theorem Box.src_ (x : Box w ty hb h d s t v) (y : Sv) (l : List Int) : Box (w.setCell ⟨hb, 3, none⟩ (.slice y.a y.n y.c)) ty hb { h with src := l } d y t v := by
  have := heap_setCell_same w hb 3 _ ty (.slice y.a y.n y.c) x
  simpa [Box] using this
theorem Box.tok_ (x : Box w ty hb h d s t v) (y : Sv) (l : List Int) : Box (w.setCell ⟨hb, 4, none⟩ (.slice y.a y.n y.c)) ty hb { h with tok := l } d s y v := by
  have := heap_setCell_same w hb 4 _ ty (.slice y.a y.n y.c) x
  simpa [Box] using this
theorem Box.vers_ (x : Box w ty hb h d s t v) (y : Sv) (l : List Int) : Box (w.setCell ⟨hb, 5, none⟩ (.slice y.a y.n y.c)) ty hb { h with vers := l } d s t y := by
  have := heap_setCell_same w hb 5 _ ty (.slice y.a y.n y.c) x
  simpa [Box] using this
theorem Box.len_ (x : Box w ty hb h d s t v) (y : Int) : Box (w.setCell ⟨hb, 6, none⟩ (.int .i64 y)) ty hb { h with len := y } d s t v := by
  have := heap_setCell_same w hb 6 _ ty (.int .i64 y) x
  simpa [Box] using this
theorem Box.row_ (x : Box w ty hb h d s t v) (h' : Hd) (d' s' t' v' : Sv) : Box (w.setRow hb (hcells h' d' s' t' v')) ty hb h' d' s' t' v' := setRow_heap w hb _ _ ty _ x
end
theorem hcells_one (h : Hd) (d s t v : Sv) : (hcells h d s t v).all (·.oneCell') = true := by simp [hcells, Value.oneCell']
theorem hcells_info (h : Hd) (d s t v : Sv) : (Try.prog.info? 80).map (·.size) = some (hcells h d s t v).size := by
  show (Try.prog.info? 80).map (·.size) = some 7
  kernel_rfl
/-- The end of a call whose result is a header in a block. -/
theorem ret_hd {fn : Func} {p : Tmp} {a : Act} {w : World} {R : Ending → World → Prop} (hr : fn.results = #[.cell p 80]) (hd : a.defers = [])
    (g ty : Nat) (h : Hd) (d s t v : Sv) (hp : a.tmps.getD p undef = .pointer (some ⟨g, 0, none⟩)) (hb : Box w ty g h d s t v) (hR : R (.returned (hv h d s t v)) w) : bodyPost Try.prog fn R .ret a w :=
  ⟨hd, _, results_cell_row hr _ w g ty _ (0, 0) _ hp hb Try.underlying80 rfl (by kernel_rfl), hR⟩
/-- The memory holds its parts, in rows that were made since the heap had B blocks. -/
structure Holds (B : Nat) (w : World) (h : Hd) (d s t v : Sv) : Prop where
  dr : Row w d h.dst
  sr : Row w s h.src
  tr : Row w t h.tok
  vr : RowN w v h.vers
  nd : New B d
  ns : New B s
  nt : New B t
  nv : New B v
section
variable {B B' : Nat} {w w' : World} {h : Hd} {d s t v : Sv}
theorem sub_keepN {F : Nat → Prop} {e z : Nat} {x : Sv} {vs : List Value} (h : Sub w e z x.a x.n x.c vs) (hn : New B x) (k : Keep F w w') (hF : ∀ i, F i → i < B ∨ w.heap.size ≤ i) : Sub w' e z x.a x.n x.c vs :=
  h.keep k (fun i hi hf => by have h1 := h.lt i hi; have h2 := hn i hi; rcases hF i hf with h3 | h3 <;> omega)
theorem Holds.keep {F : Nat → Prop} (x : Holds B w h d s t v) (k : Keep F w w') (hF : ∀ i, F i → i < B ∨ w.heap.size ≤ i) : Holds B w' h d s t v :=
  ⟨sub_keepN x.dr x.nd k hF, sub_keepN x.sr x.ns k hF, sub_keepN x.tr x.nt k hF, sub_keepN x.vr x.nv k hF, x.nd, x.ns, x.nt, x.nv⟩
theorem Holds.q (x : Holds B w h d s t v) (k : Q w w') : Holds B w' h d s t v := x.keep (Keep.ofQ (F := fun _ => False) k) (fun _ f => f.elim)
theorem Holds.mono (x : Holds B w h d s t v) (hb : B' ≤ B) : Holds B' w h d s t v := ⟨x.dr, x.sr, x.tr, x.vr, x.nd.mono hb, x.ns.mono hb, x.nt.mono hb, x.nv.mono hb⟩
theorem holds_nil (B : Nat) (w : World) (k ve l : Int) : Holds B w ⟨k, ve, [], [], [], [], l⟩ nilS nilS nilS nilS := ⟨sub_nil _ _ _, sub_nil _ _ _, sub_nil _ _ _, sub_nil _ _ _, new_nil _, new_nil _, new_nil _, new_nil _⟩
end

/-! ### reading as plain mathematics -/
/-- What a reading comes to: an item and the place behind it, or why it ends. -/
inductive Out (α : Type) where
  | ok (a : α) (q : Int)
  | bad (x : Int)
def Out.bind {α β : Type} (o : Out α) (f : α → Int → Out β) : Out β :=
  match o with
  | .ok a q => f a q
  | .bad x => .bad x
def Out.stop {α : Type} (o : Out α) : Prop := ∀ a q, o ≠ .ok a q
def refP (x : Int) : PanicEntry := { v := .iface 25 (.int .i64 x), recovered := false }
/-- What is panicked with. -/
def Out.ends {α : Type} (o : Out α) : List PanicEntry :=
  match o with
  | .ok _ _ => []
  | .bad x => [refP x]
theorem Out.bind_stop {α β : Type} {o : Out α} (h : o.stop) (f : α → Int → Out β) : (o.bind f).stop ∧ (o.bind f).ends = o.ends := by
  cases o with
  | ok a q => exact absurd rfl (h a q)
  | bad x => exact ⟨(by intro a q e; cases e), rfl⟩
theorem stop_bad {α : Type} (x : Int) : (Out.bad x : Out α).stop := by intro a q e; cases e
theorem Out.bind_ok {α β : Type} {o : Out α} {f : α → Int → Out β} {a : β} {q : Int} (h : o.bind f = .ok a q) : ∃ x q', o = .ok x q' ∧ f x q' = .ok a q := by
  cases o with
  | ok x q' => exact ⟨x, q', rfl, h⟩
  | bad x => cases h

def numO (zs : List Int) (p : Int) : Out Int := if (rd zs p).2.2 = 0 then .ok (rd zs p).1 (rd zs p).2.1 else .bad 12
def someO (zs : List Int) (p k : Int) : Out (List Int) := if (zs.length : Int) - p < k then .bad 12 else .ok ((zs.drop p.toNat).take k.toNat) (p + k)
def oneO (zs : List Int) (p : Int) : Out Int := if (zs.length : Int) - p < 1 then .bad 12 else .ok (zs.getD p.toNat 0) (p + 1)
def verO (zs : List Int) (p : Int) : Out Int := (someO zs p 4).bind fun bs q => .ok (val 0 bs) q
def idO (zs : List Int) (p : Int) : Out (List Int) := (oneO zs p).bind fun m q => if 20 < m then .bad 61 else someO zs q m
/-- The j-th version behind p. -/
def vat (zs : List Int) (p : Nat) (j : Nat) : Int := val 0 ((zs.drop (p + 4 * j)).take 4)
def versO (zs : List Int) (p : Int) : Out (List Int) :=
  if (zs.length : Int) - p = 0 ∨ ((zs.length : Int) - p) % 4 ≠ 0 then .bad 54 else .ok ((List.range ((zs.length - p.toNat) / 4)).map (vat zs p.toNat)) zs.length
def lenO (zs tk : List Int) (p : Int) : Out (List Int × Int) := (numO zs p).bind fun l q => if l = 0 ∨ (zs.length : Int) - q < l then .bad 54 else .ok (tk, l) q
def fillO (zs : List Int) (kind p : Int) : Out (List Int × Int) :=
  if kind = 4 then (if (zs.length : Int) - p < 16 then .bad 12 else (someO zs p ((zs.length : Int) - p - 16)).bind fun tk q => .ok (tk, 0) q)
  else if kind = 1 then (numO zs p).bind fun m q => (someO zs q m).bind fun tk q2 => lenO zs tk q2
  else lenO zs [] p
def longO (zs : List Int) (first p : Int) : Out Hd :=
  (verO zs p).bind fun ve q1 => (idO zs q1).bind fun d q2 => (idO zs q2).bind fun s q3 =>
    if ve = 0 then (versO zs q3).bind fun vs q4 => .ok ⟨5, ve, d, s, [], vs, 0⟩ q4
    else if ve = 1 then (if first / 64 % 2 = 0 then .bad 62 else (fillO zs (1 + first / 16 % 4) q3).bind fun tl q4 => .ok ⟨1 + first / 16 % 4, ve, d, s, tl.1, [], tl.2⟩ q4)
    else .ok ⟨7, ve, d, s, [], [], 0⟩ q3
def hdrO (zs : List Int) (cid p : Int) : Out Hd :=
  if cid < 0 ∨ 20 < cid then .bad 61 else (oneO zs p).bind fun first q =>
    if 128 ≤ first then longO zs first q
    else if first / 64 % 2 = 0 then .bad 62
    else (someO zs q cid).bind fun d q2 => .ok ⟨6, 0, d, [], [], [], (zs.length : Int) - q2⟩ q2

theorem rd_range {zs : List Int} {p m q e : Int} (hz : ∀ y ∈ zs, 0 ≤ y ∧ y < 256) (hp : 0 ≤ p) (hpl : p ≤ zs.length) (h : rd zs p = (m, q, e)) (he : e = 0) : p < q ∧ q ≤ zs.length ∧ 0 ≤ m ∧ m ≤ 4611686018427387903 := by
  subst he
  unfold rd at h
  rw [if_neg (by omega)] at h
  rcases rdAt_ok h with ⟨_, x, r, hl, hw, rfl, rfl⟩ | ⟨h, _⟩
  · have hd : ∀ y ∈ x :: r, 0 ≤ y ∧ y < 256 := fun y hy => hz y (List.mem_of_mem_drop (hl ▸ hy))
    have hx := hd x (by simp)
    have hwp : 0 < width x := by rcases width_cases hx.1 hx.2 with h | h | h | h <;> omega
    have := least hd (by rw [hl] at hw; exact hw)
    have hlen : (zs.drop p.toNat).length = zs.length - p.toNat := by simp
    rw [hlen] at hw
    refine ⟨by omega, by omega, this.1, this.2.1⟩
  · omega
/-- A place in these bytes. -/
structure Pl (zs : List Int) (p : Int) : Prop where
  hz : ∀ y ∈ zs, 0 ≤ y ∧ y < 256
  h0 : 0 ≤ p
  h1 : p ≤ zs.length
section
variable {zs : List Int} {p q : Int}
theorem numO_pl {m : Int} (hp : Pl zs p) (h : numO zs p = .ok m q) : Pl zs q ∧ p < q ∧ 0 ≤ m ∧ m ≤ 4611686018427387903 := by
  unfold numO at h
  by_cases hf : (rd zs p).2.2 = 0
  · rw [if_pos hf] at h
    cases h
    have := rd_range hp.hz hp.h0 hp.h1 (m := (rd zs p).1) (q := (rd zs p).2.1) (e := (rd zs p).2.2) rfl hf
    have h0 := hp.h0
    exact ⟨⟨hp.hz, by omega, this.2.1⟩, this.1, this.2.2⟩
  · rw [if_neg hf] at h; cases h
theorem someO_pl {k : Int} {d : List Int} (hp : Pl zs p) (hk : 0 ≤ k) (h : someO zs p k = .ok d q) : Pl zs q ∧ q = p + k ∧ d = (zs.drop p.toNat).take k.toNat ∧ (d.length : Int) = k ∧ p + k ≤ zs.length := by
  unfold someO at h
  have h0 := hp.h0
  by_cases hf : (zs.length : Int) - p < k
  · rw [if_pos hf] at h; cases h
  · rw [if_neg hf] at h
    cases h
    refine ⟨⟨hp.hz, by omega, by omega⟩, rfl, rfl, ?_, by omega⟩
    rw [List.length_take, List.length_drop]; omega
theorem oneO_pl {m : Int} (hp : Pl zs p) (h : oneO zs p = .ok m q) : Pl zs q ∧ q = p + 1 ∧ m = zs.getD p.toNat 0 ∧ p < zs.length ∧ 0 ≤ m ∧ m < 256 := by
  unfold oneO at h
  have h0 := hp.h0
  by_cases hf : (zs.length : Int) - p < 1
  · rw [if_pos hf] at h; cases h
  · rw [if_neg hf] at h
    cases h
    have hlt : p.toNat < zs.length := by omega
    have hm := hp.hz (zs.getD p.toNat 0) (by rw [List.getD_eq_getElem?_getD, List.getElem?_eq_getElem hlt]; exact List.getElem_mem hlt)
    exact ⟨⟨hp.hz, by omega, by omega⟩, rfl, rfl, by omega, hm⟩
theorem idO_pl {d : List Int} (hp : Pl zs p) (h : idO zs p = .ok d q) : Pl zs q ∧ q = p + 1 + d.length ∧ d.length ≤ 20 := by
  obtain ⟨m, q', ho, h2⟩ := Out.bind_ok h
  obtain ⟨p1, rfl, _, _, m0, m1⟩ := oneO_pl hp ho
  by_cases hm : 20 < m
  · rw [if_pos hm] at h2; cases h2
  · rw [if_neg hm] at h2
    obtain ⟨a, rfl, _, hl, _⟩ := someO_pl p1 m0 h2
    exact ⟨a, by omega, by omega⟩
theorem verO_pl {m : Int} (hp : Pl zs p) (h : verO zs p = .ok m q) : Pl zs q ∧ q = p + 4 ∧ p + 4 ≤ zs.length := by
  obtain ⟨m, q', ho, h2⟩ := Out.bind_ok h
  obtain ⟨a, rfl, _, _, b⟩ := someO_pl hp (by omega) ho
  cases h2
  exact ⟨a, rfl, b⟩
theorem versO_pl {l : List Int} (hp : Pl zs p) (h : versO zs p = .ok l q) : Pl zs q ∧ q = zs.length := by
  unfold versO at h
  by_cases hc : (zs.length : Int) - p = 0 ∨ ((zs.length : Int) - p) % 4 ≠ 0
  · rw [if_pos hc] at h; cases h
  · rw [if_neg hc] at h; cases h; exact ⟨⟨hp.hz, by omega, by omega⟩, rfl⟩
theorem lenO_pl {tk : List Int} {x : List Int × Int} (hp : Pl zs p) (h : lenO zs tk p = .ok x q) : Pl zs q ∧ p < q ∧ x.1 = tk ∧ 1 ≤ x.2 ∧ q + x.2 ≤ zs.length := by
  obtain ⟨l, q', ho, h2⟩ := Out.bind_ok h
  obtain ⟨a, b, c, d⟩ := numO_pl hp ho
  by_cases hc : l = 0 ∨ (zs.length : Int) - q' < l
  · rw [if_pos hc] at h2; cases h2
  · rw [if_neg hc] at h2; cases h2; exact ⟨a, b, rfl, by dsimp only; omega, by dsimp only; omega⟩
theorem fillO_pl {kind : Int} {x : List Int × Int} (hp : Pl zs p) (h : fillO zs kind p = .ok x q) : Pl zs q ∧ p ≤ q ∧ 0 ≤ x.2 ∧ (kind ≠ 4 → 1 ≤ x.2 ∧ q + x.2 ≤ zs.length) ∧ (kind = 4 → x.2 = 0) := by
  unfold fillO at h
  by_cases h4 : kind = 4
  · rw [if_pos h4] at h
    by_cases hs : (zs.length : Int) - p < 16
    · rw [if_pos hs] at h; cases h
    · rw [if_neg hs] at h
      obtain ⟨tk, q', ho, h2⟩ := Out.bind_ok h
      obtain ⟨a, rfl, _, _, _⟩ := someO_pl hp (by omega) ho
      cases h2
      exact ⟨a, by omega, by dsimp only; omega, fun hh => absurd h4 hh, fun _ => rfl⟩
  · rw [if_neg h4] at h
    by_cases h1 : kind = 1
    · rw [if_pos h1] at h
      obtain ⟨m, q1, ho1, h2⟩ := Out.bind_ok h
      obtain ⟨tk, q2, ho2, h3⟩ := Out.bind_ok h2
      obtain ⟨a1, b1, c1, d1⟩ := numO_pl hp ho1
      obtain ⟨a2, rfl, _, _, _⟩ := someO_pl a1 c1 ho2
      obtain ⟨a3, b3, c3, d3, e3⟩ := lenO_pl a2 h3
      exact ⟨a3, by omega, by omega, fun _ => ⟨d3, e3⟩, fun hh => absurd hh h4⟩
    · rw [if_neg h1] at h
      obtain ⟨a3, b3, c3, d3, e3⟩ := lenO_pl hp h
      exact ⟨a3, by omega, by omega, fun _ => ⟨d3, e3⟩, fun hh => absurd hh h4⟩
end
end Go.Proofs.Ytnnjogfpapndaaa
