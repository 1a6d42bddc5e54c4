/-
  The dynamic table's shrink: a contract that the statements' walks use.
-/
import Derived.Test.YtehejibllkmflaaQu
namespace Go.Proofs.Ytehejibllkmflaa
open Go.RowKit
set_option linter.unusedVariables false
set_option maxRecDepth 20000

/-- An entry's size, and what is left where the oldest go till the others are at most m. -/
def szF (f : Fd) : Int := 32 + (f.1.size : Int) + (f.2.size : Int)
def sumF (l : List Fd) : Int := (l.map szF).sum
def shrL (m : Int) : Nat → List Fd → Nat × List Fd
  | g, [] => (g, [])
  | g, f :: r => if sumF (f :: r) > m then shrL m (g + 1) r else (g, f :: r)
theorem szF_pos (f : Fd) : 32 ≤ szF f := by unfold szF; omega
theorem sumF_cons (f : Fd) (r : List Fd) : sumF (f :: r) = szF f + sumF r := by simp [sumF]
theorem sumF_nn : ∀ l : List Fd, 32 * (l.length : Int) ≤ sumF l
  | [] => by simp [sumF]
  | f :: r => by have := sumF_nn r; have := szF_pos f; rw [sumF_cons, List.length_cons]; omega
theorem slice_from2 (a : Option Addr) (n c : Nat) (h1 : 1 ≤ n) (hc : n ≤ c) (u : World) :
    (Instr.slice 42 (.slice a n c) (some (.int .i64 1)) none none).run Try.prog u = .ok (.slice (if c = 1 then a else a.map (·.add 2)) (n - 1) (c - 1)) u := by
  have h := run_slice_l (P := Try.prog) u 42 a n c Try.underlying42 .i64 1 (by omega) (by omega)
  rw [h]
  obtain ⟨i0, hi, hz1⟩ := Option.map_eq_some_iff.1 (show (Try.prog.info? 23).map (·.size) = some 2 from by kernel_rfl)
  have e : Try.prog.elem 42 = 23 := by kernel_rfl
  simp [sizeOf, typeInfo, e, hi, hz1, sliced, Result.andThen]
theorem RowG.tail {w : World} {x : Sv} {f : Fd} {r : List Fd} (h : RowG w x (f :: r)) : RowG w ⟨if x.c = 1 then x.a else x.a.map (·.add 2), x.n - 1, x.c - 1⟩ r := by
  have hl := h.len
  rw [List.length_cons] at hl
  obtain ⟨hv, h0 | ⟨g, off, cur, ha, hg, h1, h2, h3, h4⟩⟩ := h
  · omega
  · refine ⟨by rw [fcl_len]; show r.length * 2 = (x.n - 1) * 2; omega, .inr ?_⟩
    by_cases hc : x.c = 1
    · refine ⟨g, off, cur, by simp [hc, ha], hg, by show x.n - 1 ≤ x.c - 1; omega, by show x.c - 1 ≤ maxLen; omega, by show off + (x.c - 1) * 2 ≤ cur.size; omega, fun j hj => ?_⟩
      have : x.n = 1 := by omega
      simp [this] at hj
    · refine ⟨g, off + 2, cur, by simp [hc, ha, Addr.add], hg, by show x.n - 1 ≤ x.c - 1; omega, by show x.c - 1 ≤ maxLen; omega, by show off + 2 + (x.c - 1) * 2 ≤ cur.size; omega, fun j hj => ?_⟩
      have hj' : j < (x.n - 1) * 2 := hj
      have := h4 (2 + j) (by omega)
      rw [← Nat.add_assoc] at this
      rw [this, List.flatMap_cons, List.getElem?_append_right (by simp [fcl])]
      simp [fcl]
theorem RowG.zero {w : World} {x : Sv} {f : Fd} {r : List Fd} {g off : Nat} (h : RowG w x (f :: r)) (ha : x.a = some ⟨g, off, none⟩) (p : Fd) : RowG ((w.setCell ⟨g, off, none⟩ (.string p.1)).setCell ⟨g, off + 1, none⟩ (.string p.2)) x (p :: r) := by
  have hl := h.len
  rw [List.length_cons] at hl
  have h1 := Sub.set h ha (j := 0) (by omega) (.string p.1)
  have h2 := Sub.set h1 ha (j := 1) (by omega) (.string p.2)
  exact h2
def lenE (w : World) (db : Nat) : Nat := match w.cell? ⟨db, 6, none⟩ with
  | some (.slice _ n _) => n
  | _ => 0
/-- What shrink leaves, on the way. -/
structure SHr (w : World) (db : Nat) (D : Dk) (m : Int) (R : Nat × List Fd) (wr : World) (e' : Sv) (g : Nat) (es : List Fd) : Prop where
  i : DI wr db { D with sz := sumF es, gone := g, e := e' } es
  r : shrL m g es = R
  k : Keep (fun b => b = db ∨ blk D.e.a = some b) w wr
  b : ∀ b, blk e'.a = some b → blk D.e.a = some b
  n : g + es.length ≤ 281474976710656
  s : sumF es ≤ 1000000000
theorem dC_set {w : World} {db : Nat} {D : Dk} (h : w.heap[db]? = some (.cells (dC D) 55 (0, 0))) (k : Nat) (v : Value) (D' : Dk) (hd : (dC D).setIfInBounds k v = dC D') : (w.setCell ⟨db, k, none⟩ v).heap[db]? = some (.cells (dC D') 55 (0, 0)) := by
  rw [← hd]; exact heap_setCell_same w _ k _ 55 v h
theorem RowG.keep {F : Nat → Prop} {w w' : World} {x : Sv} {l : List Fd} (h : RowG w x l) (k : Keep F w w') (hF : ∀ b, blk x.a = some b → ¬ F b) : RowG w' x l := Sub.keep h k hF
theorem wrap_id {x : Int} (h0 : -9223372036854775808 ≤ x) (h1 : x ≤ 9223372036854775807) : IntKind.i64.wrap x = x := by
  simp [IntKind.wrap, IntKind.signed, IntKind.bits]
  omega
theorem frz_row {w : World} {x : Sv} {l : List Fd} {g off : Nat} (h : RowG w x l) (ha : x.a = some ⟨g, off, none⟩) (k : Nat) : w.frozen? ⟨g, k, none⟩ = false := by
  obtain ⟨_, h0 | ⟨g', o', cur, ha', hg', _⟩⟩ := h
  · rw [h0.1] at ha; cases ha
  · rw [ha'] at ha; cases ha; exact frozen_of_row w _ k _ 23 hg'
/-- One entry goes: the words behind it. -/
theorem go_one {wr u : World} {db gb off en ec g : Nat} {D : Dk} {f : Fd} {r : List Fd} {s0 : Int} (qu : Q wr u) (hi : DI wr db { D with sz := s0, gone := g, e := ⟨some ⟨gb, off, none⟩, en, ec⟩ } (f :: r)) (s1 : Int) :
    DI (((((u.setCell ⟨db, 4, none⟩ (.int .i64 s1)).setCell ⟨gb, off, none⟩ (.string ⟨#[]⟩)).setCell ⟨gb, off + 1, none⟩ (.string ⟨#[]⟩)).setCell ⟨db, 6, none⟩ (.slice (if ec = 1 then some ⟨gb, off, none⟩ else some ⟨gb, off + 2, none⟩) (en - 1) (ec - 1))).setCell ⟨db, 5, none⟩ (.int .i64 ((g : Int) + 1))) db { D with sz := s1, gone := g + 1, e := ⟨if ec = 1 then some ⟨gb, off, none⟩ else some ⟨gb, off + 2, none⟩, en - 1, ec - 1⟩ } r ∧
    Keep (fun b => b = db ∨ b = gb) wr (((((u.setCell ⟨db, 4, none⟩ (.int .i64 s1)).setCell ⟨gb, off, none⟩ (.string ⟨#[]⟩)).setCell ⟨gb, off + 1, none⟩ (.string ⟨#[]⟩)).setCell ⟨db, 6, none⟩ (.slice (if ec = 1 then some ⟨gb, off, none⟩ else some ⟨gb, off + 2, none⟩) (en - 1) (ec - 1))).setCell ⟨db, 5, none⟩ (.int .i64 ((g : Int) + 1))) := by
  have hgb : gb ≠ db := hi.d gb rfl
  have hu := hi.q qu
  have b1 := dC_set hu.b 4 (.int .i64 s1) { D with sz := s1, gone := g, e := ⟨some ⟨gb, off, none⟩, en, ec⟩ } rfl
  have k1 : Keep (fun b => b = db) u (u.setCell ⟨db, 4, none⟩ (.int .i64 s1)) := (Keep.refl _ u).setCell db 4 _ (.inl rfl)
  have r1 := hu.r.keep k1 (fun b e => hu.d b e)
  generalize u.setCell ⟨db, 4, none⟩ (.int .i64 s1) = u1 at *
  have r2 := r1.zero rfl (⟨#[]⟩, ⟨#[]⟩)
  have k2 : Keep (fun b => b = gb) u1 ((u1.setCell ⟨gb, off, none⟩ (.string ⟨#[]⟩)).setCell ⟨gb, off + 1, none⟩ (.string ⟨#[]⟩)) := ((Keep.refl (fun b => b = gb) u1).setCell gb off _ (.inl rfl)).setCell gb (off + 1) _ (.inl rfl)
  dsimp only at r2
  have b2 := (k2.block db (lt_of_block b1) (fun e => hgb e.symm)).trans b1
  generalize (u1.setCell ⟨gb, off, none⟩ (.string ⟨#[]⟩)).setCell ⟨gb, off + 1, none⟩ (.string ⟨#[]⟩) = u2 at *
  have r2' := r2.tail
  dsimp only at r2'
  have e2 : (if ec = 1 then some (⟨gb, off, none⟩ : Addr) else (some (⟨gb, off, none⟩ : Addr)).map (·.add 2)) = (if ec = 1 then some ⟨gb, off, none⟩ else some ⟨gb, off + 2, none⟩) := by split <;> rfl
  rw [e2] at r2'
  have hbk : ∀ b, blk (if ec = 1 then some (⟨gb, off, none⟩ : Addr) else some ⟨gb, off + 2, none⟩) = some b → b = gb := by
    intro b e
    split at e <;> (simp [blk] at e; exact e.symm)
  generalize (if ec = 1 then some (⟨gb, off, none⟩ : Addr) else some ⟨gb, off + 2, none⟩) = a2 at *
  have b3 := dC_set b2 6 (.slice a2 (en - 1) (ec - 1)) { D with sz := s1, gone := g, e := ⟨a2, en - 1, ec - 1⟩ } rfl
  have k3 : Keep (fun b => b = db) u2 (u2.setCell ⟨db, 6, none⟩ (.slice a2 (en - 1) (ec - 1))) := (Keep.refl _ u2).setCell db 6 _ (.inl rfl)
  have r3 := r2'.keep k3 (fun b e h => hgb (by rw [← hbk b e]; exact h))
  generalize u2.setCell ⟨db, 6, none⟩ (.slice a2 (en - 1) (ec - 1)) = u3 at *
  have b4 := dC_set b3 5 (.int .i64 ((g : Int) + 1)) { D with sz := s1, gone := g + 1, e := ⟨a2, en - 1, ec - 1⟩ } rfl
  have k4 : Keep (fun b => b = db) u3 (u3.setCell ⟨db, 5, none⟩ (.int .i64 ((g : Int) + 1))) := (Keep.refl _ u3).setCell db 5 _ (.inl rfl)
  have r4 := r3.keep k4 (fun b e h => hgb (by rw [← hbk b e]; exact h))
  refine ⟨⟨b4, r4, fun b e h => hgb (by rw [← hbk b e]; exact h)⟩, ?_⟩
  exact ((((Keep.ofQ qu).trans (k1.mono (fun i _ h => .inl h))).trans (k2.mono (fun i _ h => .inr h))).trans (k3.mono (fun i _ h => .inl h))).trans (k4.mono (fun i _ h => .inl h))
set_option maxHeartbeats 16000000 in
theorem shrink_any (db : Nat) (D : Dk) (es : List Fd) (m : Int) (w : World) (h : DI w db D es) (hm : 0 ≤ m) (hs : D.sz = sumF es) (hb : sumF es ≤ 1000000000) (hg : D.gone + es.length ≤ 281474976710656) :
    Calls Try.prog 59 #[.pointer (some ⟨db, 3, none⟩), .int .i64 m] w fun e w' => e = .returned (.tuple #[]) ∧ ∃ e' g es', SHr w db D m (shrL m D.gone es) w' e' g es' ∧ ¬ sumF es' > m := by
  have HI0 := hid (show SHr w db D m (shrL m D.gone es) w D.e D.gone es from ⟨by rw [← hs]; exact h, rfl, Keep.refl _ w, fun b e => e, hg, hb⟩)
  generalize shrL m D.gone es = R at *
  clear h hs hb hg
  go_enter Try.func59, Try.ntmps59
  go_wp2_with fail
  go_loopw [] (fun wr => ∃ e' g es', SHr w db D m R wr e' g es') (fun wr => lenE wr db)
  case atStart => exact ⟨_, _, _, HI0.out⟩
  case round =>
    obtain ⟨⟨ea, en, ec⟩, g, es1, hS⟩ := hrel
    have c4 := hS.i.c 4 _ rfl
    have c6 := hS.i.c 6 _ rfl
    have HS := hid hS
    by_cases hgt : sumF es1 > m
    · have hgt' : m < sumF es1 := hgt
      cases es1 with
      | nil => simp [sumF] at hgt; omega
      | cons f r =>
        have hl := hS.i.r.len
        dsimp only [List.length_cons] at hl
        obtain ⟨gb, off, hea, g0, g1⟩ := hS.i.r.get (k := 0) (p := f) rfl
        dsimp only at hea
        have hgb : gb ≠ db := hS.i.d gb (by rw [hea]; rfl)
        have hcap : en ≤ ec := by
          obtain ⟨_, h0 | ⟨g', o', cur, ha, hg', h1, _⟩⟩ := hS.i.r
          · have : en = 0 := h0.2.1
            omega
          · exact h1
        have hsz := sumF_cons f r
        have hsr := sumF_nn r
        have hsf := szF_pos f
        have hsb := hS.s
        have hng := hS.n
        rw [List.length_cons] at hng
        have H45 := hid (fun u => sizeF_any f.1 f.2 u (by unfold szF at *; omega) (by unfold szF at *; omega))
        have hw2 : IntKind.i64.wrap (sumF (f :: r) - szF f) = sumF r := by
          have : sumF (f :: r) - szF f = sumF r := by omega
          rw [this]
          exact wrap_id (by omega) (by omega)
        have HQC := hid (fun u (k : Q wr u) => hS.i.q k)
        rw [Nat.zero_mul, Nat.add_zero] at g0 g1
        have HO := hid (show Old db gb off en ec f.1 f.2 wr from ⟨by rw [← hea]; exact c6, g0, g1⟩)
        clear hS
        subst hea
        go_wp2_with fail
        generalize hR : Code.region 1 _ true = CC
        have eR : CC = Code.region 1 (RofN Try.f59 1) true := hR.symm.trans (by kernel_rfl)
        clear hR
        subst eR
        refine wp_region_noPanic ?_
        refine sh1 db gb off en ec f.1 f.2 (sumF (f :: r)) (szF f) (sumF r) wr _ (fun c a d v w h => h) (by omega) hgb hw2 H45.out (fun u k => ⟨(HQC.out u k).c 4 _ rfl, (HQC.out u k).f 4⟩) HO.out ?_
        intro u qu
        have HG1 := hid (go_one qu HS.out.i (sumF r))
        have hu := HQC.out u qu
        have b1 := dC_set hu.b 4 (.int .i64 (sumF r)) { D with sz := sumF r, gone := g, e := ⟨some ⟨gb, off, none⟩, en, ec⟩ } rfl
        have k1 : Keep (fun b => b = db) u (u.setCell ⟨db, 4, none⟩ (.int .i64 (sumF r))) := (Keep.refl _ u).setCell db 4 _ (.inl rfl)
        have r1 := hu.r.keep k1 (fun b e => hu.d b e)
        generalize u.setCell ⟨db, 4, none⟩ (.int .i64 (sumF r)) = u1 at *
        have a6 : u1.cell? ⟨db, 6, none⟩ = some (.slice (some ⟨gb, off, none⟩) en ec) := by rw [cell_of_row u1 _ 6 _ 55 (0, 0) b1]; rfl
        have a5 : u1.cell? ⟨db, 5, none⟩ = some (.int .i64 (g : Int)) := by rw [cell_of_row u1 _ 5 _ 55 (0, 0) b1]; rfl
        have fz5 : u1.frozen? ⟨db, 5, none⟩ = false := frozen_of_row u1 _ 5 _ 55 b1
        have fz6 : u1.frozen? ⟨db, 6, none⟩ = false := frozen_of_row u1 _ 6 _ 55 b1
        obtain ⟨gb2, off2, hea2, y0, y1⟩ := r1.get (k := 0) (p := f) rfl
        cases hea2
        rw [Nat.zero_mul, Nat.add_zero] at y0 y1
        have z0 := frz_row r1 (g := gb) (off := off) rfl off
        have z1 := frz_row r1 (g := gb) (off := off) rfl (off + 1)
        have k2 : Keep (fun b => b = gb) u1 ((u1.setCell ⟨gb, off, none⟩ (.string ⟨#[]⟩)).setCell ⟨gb, off + 1, none⟩ (.string ⟨#[]⟩)) := ((Keep.refl (fun b => b = gb) u1).setCell gb off _ (.inl rfl)).setCell gb (off + 1) _ (.inl rfl)
        have b2 := (k2.block db (lt_of_block b1) (fun e => hgb e.symm)).trans b1
        have HB2 := hid b2
        have hen : 0 < en := by omega
        have hen' : (0 : Int) < (en : Int) := by omega
        have hsl := slice_from2 (some ⟨gb, off, none⟩) en ec (by omega) hcap
        rw [show (if ec = 1 then some (⟨gb, off, none⟩ : Addr) else (some (⟨gb, off, none⟩ : Addr)).map (·.add 2)) = (if ec = 1 then some ⟨gb, off, none⟩ else some ⟨gb, off + 2, none⟩) by split <;> rfl] at hsl
        have hsr2 : sumF r ≤ 1000000000 := by omega
        clear hu b1 k1 r1 k2 b2 HO HQC H45 hw2 c4 c6 g0 g1 hsz
        refine NoPanic.normal ?_
        refine ‹∀ a w, Code.wp Try.prog _ _ a w → _› _ _ ?_
        have HBK := hid (show ∀ b, blk (if ec = 1 then some (⟨gb, off, none⟩ : Addr) else some ⟨gb, off + 2, none⟩) = some b → b = gb from by
          intro b e
          split at e <;> (simp [blk] at e; exact e.symm))
        have HM := hid (show lenE wr db = en from by unfold lenE; rw [HS.out.i.c 6 _ rfl]; rfl)
        generalize (if ec = 1 then some (⟨gb, off, none⟩ : Addr) else some ⟨gb, off + 2, none⟩) = a2 at *
        have HS2 := hid (show SHr w db D m R (((((u1.setCell ⟨gb, off, none⟩ (.string ⟨#[]⟩)).setCell ⟨gb, off + 1, none⟩ (.string ⟨#[]⟩)).setCell ⟨db, 6, none⟩ (.slice a2 (en - 1) (ec - 1))).setCell ⟨db, 5, none⟩ (.int .i64 ((g : Int) + 1)))) ⟨a2, en - 1, ec - 1⟩ (g + 1) r from
          ⟨HG1.out.1, by have := HS.out.r; rw [shrL, if_pos hgt] at this; exact this, HS.out.k.trans (HG1.out.2.mono (fun i _ h => h.elim .inl (fun e => .inr (by rw [e]; exact HS.out.b gb rfl)))), fun b e => HS.out.b b (by rw [HBK.out b e]; rfl), by omega, by omega⟩)
        have hg1 : (g : Int) + 1 ≤ 9223372036854775807 := by omega
        clear HG1 HS HBK
        go_wp2
        go_roundw
        case rel => exact ⟨_, _, _, HS2.out⟩
        case measure => rw [show lenE _ db = en - 1 from by unfold lenE; rw [HS2.out.i.c 6 _ rfl]; rfl, HM.out]; omega
    · have hle : sumF es1 ≤ m := by omega
      go_wp2
      go_end0
      exact ⟨rfl, ⟨ea, en, ec⟩, g, es1, HS.out, hgt⟩
end Go.Proofs.Ytehejibllkmflaa
