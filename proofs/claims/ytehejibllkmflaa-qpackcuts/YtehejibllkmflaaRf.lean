/-
  The inner text of takeWhole, walked: a contract that the statements' walks use.
-/
import Derived.Test.YtehejibllkmflaaRe
namespace Go.Proofs.Ytehejibllkmflaa
open Go.RowKit
set_option linter.unusedVariables false
set_option maxRecDepth 20000

theorem whl_fuel {most : Int} {zs : List Int} (hz : ∀ y ∈ zs, 0 ≤ y ∧ y < 256) (hm : most ≤ 100000000) : ∀ (k n : Nat) (cap : Int) (g : Nat) (es : List Fd) (p : Nat), 0 ≤ cap ∧ cap ≤ 100000000 → zs.length - p = k → k ≤ n → p ≤ zs.length → whl most n cap g es zs p = whl most k cap g es zs p := by
  intro k
  induction k using Nat.strongRecOn with
  | ind k ih =>
    intro n cap g es p hc hk hn hp
    cases k with
    | zero =>
      have e : p = zs.length := by omega
      cases n with
      | zero => rfl
      | succ n => simp only [whl, if_pos e]
    | succ k =>
      cases n with
      | zero => omega
      | succ n =>
        have e : ¬ p = zs.length := by omega
        simp only [whl, if_neg e]
        cases ht : takO most cap g es zs p (zs.getD p 0).toNat with
        | bad z => rfl
        | ok cap' g' es' q =>
          obtain ⟨h1, h2, _, _, h5, h6⟩ := takO_ok hz ht hc hm
          simp only
          rw [ih (zs.length - q) (by omega) n cap' g' es' q ⟨h5, h6⟩ rfl (by omega) h2, ih (zs.length - q) (by omega) k cap' g' es' q ⟨h5, h6⟩ rfl (by omega) h2]
/-- The decoder behind so many instructions. -/
abbrev dAt (D : Dk) (c : Int) (g : Nat) (e : Sv) (es : List Fd) : Dk := { D with cap := c, sz := sumF es, gone := g, e := e }
structure WH (w : World) (db : Nat) (D : Dk) (G : Nat) (rb : Nat) (x : Sv) (zs : List Int) (br bt tk : Nat) (R : WR) (wr : World) (c : Int) (g : Nat) (e : Sv) (es : List Fd) (p : Nat) : Prop where
  t : TR wr db (dAt D c g e es) es rb x zs p
  bx : wr.heap[br]? = some (.cells #[.pointer (some ⟨rb, 0, none⟩)] 78 (0, 0))
  bf : wr.heap[bt]? = some (.cells #[.func (.func 19) #[.pointer (some ⟨db, 0, none⟩)] #[]] 59 (0, 0))
  tx : wr.heap[tk]? = some (.cells #[.int .i64 (p : Int)] 3 (0, 0))
  r : whl D.most (zs.length - p) c g es zs p = R
  k : Keep (fun b => b = db ∨ b = rb ∨ b = tk ∨ blk D.e.a = some b) w wr
  b : ∀ b, blk e.a = some b → blk D.e.a = some b ∨ w.heap.size ≤ b
  gn : g + es.length ≤ G + p
/-- What the whole instructions leave. -/
structure WE (w : World) (db : Nat) (D : Dk) (rb tk : Nat) (R : WR) (w' : World) (e : Sv) : Prop where
  i : DI w' db (dAt D R.cap R.g e R.es) R.es
  tx : w'.heap[tk]? = some (.cells #[.int .i64 (R.p : Int)] 3 (0, 0))
  k : Keep (fun b => b = db ∨ b = rb ∨ b = tk ∨ blk D.e.a = some b) w w'
  b : ∀ b, blk e.a = some b → blk D.e.a = some b ∨ w.heap.size ≤ b
  c : 0 ≤ R.cap ∧ R.cap ≤ 100000000
  s : sumF R.es ≤ 100000000
def placeC (w : World) (rb : Nat) : Nat := match w.cell? ⟨rb, 1, none⟩ with
  | some (.int _ n) => n.toNat
  | _ => 0
set_option maxHeartbeats 16000000 in
theorem whole_in (db : Nat) (D : Dk) (es : List Fd) (rb : Nat) (x : Sv) (zs : List Int) (br bt tk : Nat) (w : World) (h : TR w db D es rb x zs 0) (hbr : w.heap[br]? = some (.cells #[.pointer (some ⟨rb, 0, none⟩)] 78 (0, 0))) (hbt : w.heap[bt]? = some (.cells #[.func (.func 19) #[.pointer (some ⟨db, 0, none⟩)] #[]] 59 (0, 0))) (htk : w.heap[tk]? = some (.cells #[.int .i64 0] 3 (0, 0)))
    (hd : ∀ b, b = br ∨ b = bt ∨ b = tk → b ≠ db ∧ b ≠ rb ∧ blk D.e.a ≠ some b ∧ blk x.a ≠ some b) (hd2 : tk ≠ br ∧ tk ≠ bt) (hm : D.most ≤ 100000000) (hG : D.gone + es.length + zs.length ≤ 140737488355328) :
    Calls Try.prog 30 #[.pointer (some ⟨br, 0, none⟩), .pointer (some ⟨bt, 0, none⟩), .pointer (some ⟨tk, 0, none⟩)] w fun e w' => e = (if (whl D.most zs.length D.cap D.gone es zs 0).e = 0 then .returned (.tuple #[]) else .panicked [refP (whl D.most zs.length D.cap D.gone es zs 0).e]) ∧ ∃ e', WE w db D rb tk (whl D.most zs.length D.cap D.gone es zs 0) w' e' := by
  have HI0 := hid (show WH w db D (D.gone + es.length) rb x zs br bt tk (whl D.most zs.length D.cap D.gone es zs 0) w D.cap D.gone D.e es 0 from
    ⟨by have e : dAt D D.cap D.gone D.e es = D := by (have hs := h.s; cases D; simp only at hs; subst hs; rfl)
        rw [e]; exact h, hbr, hbt, htk, rfl, Keep.refl _ w, fun b e => .inl e, by omega⟩)
  generalize whl D.most zs.length D.cap D.gone es zs 0 = R at *
  generalize hGe : D.gone + es.length = G at *
  have HZ := hid h.r.z
  have hlr := lt_of_block hbr
  have hlt := lt_of_block hbt
  have hlk := lt_of_block htk
  clear h hbr hbt htk hGe
  go_enter Try.func30, Try.ntmps30
  go_wp2_with fail
  go_loopw [] (fun wr => ∃ c g e es1 p, WH w db D G rb x zs br bt tk R wr c g e es1 p) (fun wr => zs.length - placeC wr rb)
  case atStart => exact ⟨_, _, _, _, _, HI0.out⟩
  case round =>
    obtain ⟨c, g, e, es1, p, hS⟩ := hrel
    have HS := hid hS
    have cr : wr.cell? ⟨br, 0, none⟩ = some (.pointer (some ⟨rb, 0, none⟩)) := by rw [cell_of_row wr _ 0 _ 78 (0, 0) hS.bx]; rfl
    have cf : wr.cell? ⟨bt, 0, none⟩ = some (.func (.func 19) #[.pointer (some ⟨db, 0, none⟩)] #[]) := by rw [cell_of_row wr _ 0 _ 59 (0, 0) hS.bf]; rfl
    have HE := hid (ended_any rb x zs p wr hS.t.r)
    have hpl := hS.t.r.pl
    by_cases hp : p = zs.length
    · rw [decide_eq_true hp] at HE
      have hR := hS.r
      rw [hp, Nat.sub_self, whl] at hR
      subst hp
      have HR := hid (show WE w db D rb tk R wr e from by
        rw [← hR]
        exact ⟨hS.t.i, hS.tx, hS.k, hS.b, hS.t.c, hS.t.sb⟩)
      have hR0 : R.e = 0 := by rw [← hR]
      clear hS hR
      go_wp2_with (go_at_call 31; refine HE.out.mono ?_; rintro e9 w1 ⟨rfl, q1⟩)
      go_end0
      refine ⟨rfl, e, ⟨HR.out.i.q q1, blk_q q1 HR.out.tx, HR.out.k.trans (Keep.ofQ q1), HR.out.b, HR.out.c, HR.out.s⟩⟩
    · rw [decide_eq_false hp] at HE
      have hpl2 : p < zs.length := by omega
      obtain ⟨y, hy, hy2⟩ : ∃ y : Nat, zs[p]? = some (y : Int) ∧ y < 256 := by
        have h2 := HZ.out zs[p] (List.getElem_mem hpl2)
        exact ⟨zs[p].toNat, by rw [List.getElem?_eq_getElem hpl2, Int.toNat_of_nonneg h2.1], by omega⟩
      have hyd : (zs.getD p 0).toNat = y := by rw [List.getD_eq_getElem?_getD, hy]; rfl
      have hR := hS.r
      obtain ⟨k, hk⟩ : ∃ k, zs.length - p = k + 1 := ⟨zs.length - p - 1, by omega⟩
      rw [hk, whl, if_neg hp, hyd] at hR
      have hKm : ∀ b, b = br ∨ b = bt ∨ b = tk → ¬ (b = db ∨ b = rb ∨ blk e.a = some b) := by
        intro b hb2 h2
        have h3 := hd b hb2
        rcases h2 with h2 | h2 | h2
        · exact h3.1 h2
        · exact h3.2.1 h2
        · rcases hS.b b h2 with h4 | h4
          · exact h3.2.2.1 h4
          · rcases hb2 with rfl | rfl | rfl <;> omega
      have HKM := hid hKm
      clear hKm
      cases ht : takO D.most c g es1 zs p y with
      | bad z =>
        rw [ht] at hR
        simp only at hR
        have hz0 := takO_bad ht
        have HT := hid (fun u (q : Q wr u) => take_bad db (dAt D c g e es1) es1 rb x zs p y z u (hS.t.q q) hy hy2 hm ht)
        have hRe : R.e = z := by rw [← hR]
        have HEND := hid (show ∀ u v, Q wr u → Keep (fun b => b = rb) u v → ∃ e', WE w db D rb tk R v e' from fun u v q k => by
          rw [← hR]
          have hu := hS.t.q q
          refine ⟨e, ⟨(k.block _ (lt_of_block hu.i.b) (fun e => hu.n e.symm)).trans hu.i.b, hu.i.r.keep k (fun b e => hu.e b e), hu.i.d⟩, (k.block _ (lt_of_block (blk_q q hS.tx)) (fun e => (hd tk (.inr (.inr rfl))).2.1 e)).trans (blk_q q hS.tx), (hS.k.trans (Keep.ofQ q)).trans (k.mono (fun i _ e => .inr (.inl e))), hS.b, hS.t.c, hS.t.sb⟩)
        clear hS hR
        go_wp2_with (go_at_call 31; refine HE.out.mono ?_; rintro e9 w1 ⟨rfl, q1⟩; have cr1 := (q1.cell (lt_of_cell cr)).trans cr; have cf1 := (q1.cell (lt_of_cell cf)).trans cf)
        refine (HT.out _ q1).mono ?_
        rintro e9 w2 ⟨rfl, k2⟩
        have hne : ¬ R.e = 0 := by rw [hRe]; exact hz0
        refine ⟨rfl, ?_, HEND.out _ _ q1 k2⟩
        first | rw [if_neg hne, hRe] | (rw [hRe]; rw [if_neg hz0]) | rw [if_neg hz0]
      | ok c1 g1 es2 q =>
        rw [ht] at hR
        simp only at hR
        obtain ⟨t1, t2, t3, t4, t5, t6⟩ := takO_ok HZ.out ht hS.t.c hm
        rw [whl_fuel HZ.out hm (zs.length - q) k c1 g1 es2 q ⟨t5, t6⟩ rfl (by omega) t2] at hR
        have HT := hid (fun u (q1 : Q wr u) => take_ok db (dAt D c g e es1) es1 rb x zs p y c1 g1 es2 q u (hS.t.q q1) hy hy2 hm ht)
        have hgn := hS.gn
        have HNX := hid (show ∀ u v e', Q wr u → TkS u db (dAt D c g e es1) rb x zs c1 g1 es2 q v e' → WH w db D G rb x zs br bt tk R (v.setCell ⟨tk, 0, none⟩ (.int .i64 (q : Int))) c1 g1 e' es2 q ∧ v.heap[br]? = some (.cells #[.pointer (some ⟨rb, 0, none⟩)] 78 (0, 0)) ∧ v.heap[tk]? = some (.cells #[.int .i64 (p : Int)] 3 (0, 0)) from fun u v e' qu t => by
          have hus := qu.size
          have hws := hS.k.size
          have nb : ∀ b, b = br ∨ b = bt ∨ b = tk → ¬ (b = db ∨ b = rb ∨ blk e.a = some b) := HKM.out
          have vbr := (t.k.block _ (lt_of_block (blk_q qu hS.bx)) (nb br (.inl rfl))).trans (blk_q qu hS.bx)
          have vbt := (t.k.block _ (lt_of_block (blk_q qu hS.bf)) (nb bt (.inr (.inl rfl)))).trans (blk_q qu hS.bf)
          have vtk := (t.k.block _ (lt_of_block (blk_q qu hS.tx)) (nb tk (.inr (.inr rfl)))).trans (blk_q qu hS.tx)
          have k3 : Keep (fun b => b = tk) v (v.setCell ⟨tk, 0, none⟩ (.int .i64 (q : Int))) := (Keep.refl _ v).setCell tk 0 _ (.inl rfl)
          have hdt := hd tk (.inr (.inr rfl))
          have e'b : ∀ b, blk e'.a = some b → blk D.e.a = some b ∨ w.heap.size ≤ b := fun b eb => by
            rcases t.b b eb with h1 | h1
            · exact hS.b b h1
            · exact .inr (by omega)
          have hxl : ∀ b, blk x.a = some b → b < wr.heap.size := fun b eb => (hS.t.xd b eb).2.2
          have hrl := lt_of_block hS.t.r.b
          have hE : ∀ b, blk e'.a = some b → b ≠ rb := fun b eb h => by
            rcases t.b b eb with h1 | h1
            · exact hS.t.e b h1 h
            · omega
          have hX : ∀ b, blk x.a = some b → b ≠ db ∧ blk e'.a ≠ some b ∧ b < (v.setCell ⟨tk, 0, none⟩ (.int .i64 (q : Int))).heap.size := fun b eb => by
            have h1 := hS.t.xd b eb
            refine ⟨h1.1, fun h => ?_, Nat.lt_of_lt_of_le h1.2.2 (Nat.le_trans hus (Nat.le_trans t.k.size k3.size))⟩
            rcases t.b b h with h2 | h2
            · exact h1.2.1 h2
            · omega
          have e'tk : ∀ b, blk e'.a = some b → ¬ b = tk := fun b eb h => by
            rcases e'b b eb with h1 | h1
            · exact hdt.2.2.1 (by rw [← h]; exact h1)
            · omega
          refine ⟨⟨⟨⟨(k3.block _ (lt_of_block t.i.b) (fun e => hdt.1 e.symm)).trans t.i.b, t.i.r.keep k3 e'tk, t.i.d⟩, t.r.keep k3 (fun e => hdt.2.1 e.symm) (fun b eb h => hdt.2.2.2 (by rw [← h]; exact eb)), hS.t.n, hE, hX, rfl, by show sumF es2 ≤ _; omega, ⟨t5, t6⟩, by show g1 + es2.length ≤ _; omega⟩, (k3.block _ (lt_of_block vbr) (fun e => hd2.1 e.symm)).trans vbr, (k3.block _ (lt_of_block vbt) (fun e => hd2.2 e.symm)).trans vbt, heap_setCell_same v _ 0 _ 3 _ vtk, hR, ?_, e'b, by omega⟩, vbr, vtk⟩
          refine ((hS.k.trans (Keep.ofQ qu)).trans' t.k (fun i hi hh => ?_)).trans (k3.mono (fun i _ h => .inr (.inr (.inl h))))
          rcases hh with h1 | h1 | h1
          · exact .inl h1
          · exact .inr (.inl h1)
          · rcases hS.b i h1 with h2 | h2
            · exact .inr (.inr (.inr h2))
            · omega)
        have HM := hid (show placeC wr rb = p from by unfold placeC; rw [hS.t.r.c1]; simp)
        clear hS hR
        go_wp2_with (go_at_call 31; refine HE.out.mono ?_; rintro e9 w1 ⟨rfl, q1⟩; have cr1 := (q1.cell (lt_of_cell cr)).trans cr; have cf1 := (q1.cell (lt_of_cell cf)).trans cf)
        refine (HT.out _ q1).mono ?_
        rintro e9 w2 ⟨rfl, e', t9⟩
        have HN := hid (HNX.out _ _ e' q1 t9)
        have d1 := t9.r.c1
        clear t9 q1 cr cf cr1 cf1
        have d0 : w2.cell? ⟨br, 0, none⟩ = some (.pointer (some ⟨rb, 0, none⟩)) := by rw [cell_of_row w2 _ 0 _ 78 (0, 0) HN.out.2.1]; rfl
        have d2 : w2.cell? ⟨tk, 0, none⟩ = some (.int .i64 (p : Int)) := by rw [cell_of_row w2 _ 0 _ 3 (0, 0) HN.out.2.2]; rfl
        have f2 : w2.frozen? ⟨tk, 0, none⟩ = false := frozen_of_row w2 _ 0 _ 3 HN.out.2.2
        go_wp2
        go_roundw
        case rel => exact ⟨_, _, _, _, _, HN.out.1⟩
        case measure => rw [show placeC _ rb = q from by unfold placeC; rw [HN.out.1.t.r.c1]; simp, HM.out]; omega
end Go.Proofs.Ytehejibllkmflaa
