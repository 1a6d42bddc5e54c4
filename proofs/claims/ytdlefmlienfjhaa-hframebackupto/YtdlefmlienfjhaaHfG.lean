/-
  A reader's settingsOf: a contract that the statements' walks use.
-/
import Derived.Test.YtdlefmlienfjhaaHfF
import Derived.Test.YtdlefmlienfjhaaReader
import Derived.Maps.OwnOps
import Derived.Maps.Views
namespace Go.Proofs.Ytdlefmlienfjhaa
open Go.RowKit Go.Maps
set_option linter.unusedVariables false
set_option maxRecDepth 100000

theorem law3 : Keyed Try.prog 3 := int_keyed Try.underlying3
theorem zero3 (w : World) : (zeroValue 3).run Try.prog w = .ok (.int .i64 0) w := by kernel_rfl
/-- A map of numbers by numbers. -/
def Mo (w : World) (mb cnt : Nat) (m : Int → Option Int) : Prop := ∃ D : DataW Unit, w.ownsMap Try.prog 3 (plainElem Try.prog 3) mb cnt D ∧ ∀ (i : Int) (z : DataW Unit), D.atKey (.int .i64 i) z = (match m i with | some v => .lit (.int .i64 v) | none => z)
theorem Mo.lt {w : World} {mb cnt : Nat} {m : Int → Option Int} (h : Mo w mb cnt m) : mb < w.heap.size := by obtain ⟨D, h, _⟩ := h; exact h.lt
theorem Mo.keep {F : Nat → Prop} {w w' : World} {mb cnt : Nat} {m : Int → Option Int} (h : Mo w mb cnt m) (k : Keep F w w') (hF : ¬ F mb) : Mo w' mb cnt m := by
  obtain ⟨D, ⟨es, clock, hb, r⟩, hD⟩ := h
  exact ⟨D, ⟨es, clock, (k.block mb (lt_of_block hb) hF).trans hb, r⟩, hD⟩
theorem wfi {n : Int} (h0 : -9223372036854775808 ≤ n) (h1 : n ≤ 9223372036854775807) : (Lit.int .i64 n).wf = true := WalkArith.wf_i64 (by omega)
theorem key3 {n : Int} (h0 : -9223372036854775808 ≤ n) (h1 : n ≤ 9223372036854775807) : keyOf Try.prog 3 (.int .i64 n) = some (.int .i64 n) := keyOf_int_mk Try.underlying3 (wfi h0 h1)
theorem Mo.look {w : World} {mb cnt : Nat} {m : Int → Option Int} (h : Mo w mb cnt m) (i : Int) (h0 : -9223372036854775808 ≤ i) (h1 : i ≤ 9223372036854775807) (c : Bool) :
    (Instr.lookup 97 (.map (some mb)) (.int .i64 i) c).run Try.prog w = .ok (if c then .tuple #[.int .i64 ((m i).getD 0), .bool (m i).isSome] else .int .i64 ((m i).getD 0)) w := by
  obtain ⟨D, ⟨es, clock, hb, F, _, rfl⟩, hD⟩ := h
  rcases Maps.fit_look c law3 Try.underlying97 (zero3 w) hb F (key3 h0 h1) with ⟨hrun, _, hat⟩ | ⟨e0, y, _, _, hrun, hRv, hat, _⟩
  · have e : m i = none := by
      have h2 := hD i .nil
      rw [hat .nil] at h2
      cases hm : m i with
      | none => rfl
      | some v => rw [hm] at h2; cases h2
    rw [hrun, e]
    rfl
  · obtain ⟨v, hv, hy, _⟩ := plainElem_int_inv Try.underlying3 hRv
    have e : m i = some v := by
      have h2 := hD i .nil
      rw [hat .nil, hy] at h2
      cases hm : m i with
      | none => rw [hm] at h2; cases h2
      | some u => rw [hm] at h2; injection h2 with h3; injection h3 with _ h4; rw [h4]
    rw [hrun, e, hv]
    rfl
theorem Mo.put {w w' : World} {mb cnt : Nat} {m : Int → Option Int} {D : DataW Unit} (hown : w.ownsMap Try.prog 3 (plainElem Try.prog 3) mb cnt D) (hD : ∀ (i : Int) (z : DataW Unit), D.atKey (.int .i64 i) z = (match m i with | some v => .lit (.int .i64 v) | none => z)) (i v : Int) (h0 : -9223372036854775808 ≤ i) (h1 : i ≤ 9223372036854775807)
    (h : w'.ownsMap Try.prog 3 (plainElem Try.prog 3) mb (cnt + 1) (D.put (.int .i64 i) (.lit (.int .i64 v)))) : Mo w' mb (cnt + 1) (upd m i v) := by
  refine ⟨_, h, fun j z => ?_⟩
  unfold upd
  by_cases e : j = i
  · subst e
    rw [atKey_put_same hown.isMap (law3.key (key3 h0 h1)), if_pos rfl]
  · rw [atKey_put_other (by intro h; apply e; injection h), if_neg e]
    exact hD j z
theorem Rdr.keep {F : Nat → Prop} {w w' : World} {t rb : Nat} {a : Option Addr} {n c : Nat} {p f : Int} (h : Rdr w t rb a n c p f) (k : Keep F w w') (hF : ¬ F rb) : Rdr w' t rb a n c p f := (k.block rb (lt_of_block h) hF).trans h
theorem Only.keep {rb : Nat} {a b : World} (h : Only rb a b) : Keep (fun i => i = rb) a b := Keep.ofGrown h (fun k e => by cases e; rfl)
/-- So much is left to read, as the memory has it. -/
def msr (w : World) (rb n : Nat) : Nat := match w.cell? ⟨rb, 1, none⟩, w.cell? ⟨rb, 2, none⟩ with
  | some (.int _ p), some (.int _ f) => if f = 0 then n + 1 - p.toNat else 0
  | _, _ => 0
theorem msr_of {w : World} {rb : Nat} {a : Option Addr} {n c : Nat} {p f : Int} (h : Rdr w 102 rb a n c p f) : msr w rb n = if f = 0 then n + 1 - p.toNat else 0 := by unfold msr; rw [h.c1, h.c2]
/-- The loop of settingsOf. -/
structure SR (w : World) (sb rb g mb n : Nat) (zs : List Int) (wr : World) (ref : Bool) (p f : Int) (cnt : Nat) (m : Int → Option Int) : Prop where
  q : Q w wr
  s : wr.heap[sb]? = some (.cells #[.int .i64 0, .int .i64 0, .int .i64 0] 39 (0, 0))
  r : Rdr wr 102 rb (some ⟨g, 0, none⟩) n n p f
  z : SegOff rb wr (some ⟨g, 0, none⟩) zs
  mp : Mo wr mb cnt m
  b : 0 ≤ p ∧ p ≤ n
  c : cnt ≤ n + 1
  ok : f = 0 → (cnt : Int) ≤ p ∧ ∃ k : Nat, (n : Int) - p < (k : Int) ∧ sttL zs k p m ref = setE zs
  no : f ≠ 0 → setE zs = ((0, 0, 0), 54)
structure SB (w : World) (sb rb g mb : Nat) : Prop where
  a1 : w.heap.size ≤ sb
  a2 : w.heap.size ≤ rb
  a3 : w.heap.size ≤ mb
  b1 : sb ≠ rb
  b2 : sb ≠ mb
  b3 : rb ≠ mb
  b4 : g ≠ rb
  b5 : g ≠ mb
theorem numR_ok {zs : List Int} {p m q : Int} (h : rd zs p = (m, q, 0)) : numR zs p 0 = (m, q, 0) := by unfold numR; rw [if_pos rfl, h]; rfl
theorem numR_no {zs : List Int} {p : Int} (h : (rd zs p).2.2 ≠ 0) : numR zs p 0 = (0, p, (rd zs p).2.2) := by unfold numR; rw [if_pos rfl, if_neg h]
theorem numR_f {zs : List Int} {p f : Int} (h : f ≠ 0) : numR zs p f = (0, p, f) := by unfold numR; rw [if_neg h]
theorem results42 (tmps : Array Value) (w : World) (sb : Nat) (x y z e : Int) (h2 : tmps.getD 2 undef = .pointer (some ⟨sb, 0, none⟩)) (h3 : tmps.getD 3 undef = .int .i64 e) (hb : w.heap[sb]? = some (.cells #[.int .i64 x, .int .i64 y, .int .i64 z] 39 (0, 0))) :
    (results Try.f42 tmps).run Try.prog w = .ok (.tuple #[.agg #[.int .i64 x, .int .i64 y, .int .i64 z], .int .i64 e]) w := by
  have h2' : tmps[2]?.getD undef = .pointer (some ⟨sb, 0, none⟩) := by simpa using h2
  have h3' : tmps[3]?.getD undef = .int .i64 e := by simpa using h3
  have c0 : w.cell? ⟨sb, 0, none⟩ = some (.int .i64 x) := by rw [cell_of_row w sb 0 _ 39 (0, 0) hb]; rfl
  have c1 : w.cell? ⟨sb, 1, none⟩ = some (.int .i64 y) := by rw [cell_of_row w sb 1 _ 39 (0, 0) hb]; rfl
  have c2 : w.cell? ⟨sb, 2, none⟩ = some (.int .i64 z) := by rw [cell_of_row w sb 2 _ 39 (0, 0) hb]; rfl
  simp [results, Try.f42, go_sem, h2', h3', c0, c1, c2]
theorem set_round {zs : List Int} {k : Nat} {p a1 a2 a3 b1 b2 b3 : Int} {m : Int → Option Int} {ref : Bool} (hz : ∀ y ∈ zs, 0 ≤ y ∧ y < 256) (h0 : 0 ≤ p) (h : p < zs.length) (h1 : numR zs p 0 = (a1, a2, a3)) (h2 : numR zs a2 a3 = (b1, b2, b3)) :
    (0 ≤ a1 ∧ a1 ≤ 4611686018427387903) ∧ (0 ≤ b1 ∧ b1 ≤ 4611686018427387903) ∧ (0 ≤ a2 ∧ a2 ≤ zs.length) ∧ (0 ≤ b2 ∧ b2 ≤ zs.length) ∧
    (b3 = 0 → p + 2 ≤ b2 ∧ sttL zs (k + 1) p m ref = sttL zs k b2 (upd m a1 b1) (ref || (m a1).isSome || decide (2 ≤ a1 ∧ a1 ≤ 5))) ∧ (b3 ≠ 0 → sttL zs (k + 1) p m ref = ((0, 0, 0), 54)) := by
  have hS : sttL zs (k + 1) p m ref = if (rd zs p).2.2 ≠ 0 then ((0, 0, 0), 54) else if (rd zs (rd zs p).2.1).2.2 ≠ 0 then ((0, 0, 0), 54) else sttL zs k (rd zs (rd zs p).2.1).2.1 (upd m (rd zs p).1 (rd zs (rd zs p).2.1).1) (ref || (m (rd zs p).1).isSome || decide (2 ≤ (rd zs p).1 ∧ (rd zs p).1 ≤ 5)) := by
    rw [sttL, if_neg (by omega)]
  rw [hS]
  obtain ⟨x1, x2, x3, hx⟩ : ∃ x1 x2 x3, rd zs p = (x1, x2, x3) := ⟨_, _, _, rfl⟩
  by_cases h3 : x3 = 0
  · subst h3
    have r1 := rd_in hx hz
    rw [numR_ok hx] at h1
    cases h1
    obtain ⟨y1, y2, y3, hy⟩ : ∃ y1 y2 y3, rd zs a2 = (y1, y2, y3) := ⟨_, _, _, rfl⟩
    rw [hx]
    dsimp only
    by_cases h4 : y3 = 0
    · subst h4
      have r2 := rd_in hy hz
      rw [numR_ok hy] at h2
      cases h2
      rw [hy]
      exact ⟨⟨by omega, by omega⟩, ⟨by omega, by omega⟩, ⟨by omega, by omega⟩, ⟨by omega, by omega⟩, fun _ => ⟨by omega, by simp⟩, fun h => absurd rfl h⟩
    · have hn : (rd zs a2).2.2 ≠ 0 := by rw [hy]; exact h4
      rw [numR_no hn, hy] at h2
      cases h2
      rw [hy]
      exact ⟨⟨by omega, by omega⟩, ⟨by omega, by omega⟩, ⟨by omega, by omega⟩, ⟨by omega, by omega⟩, fun h => absurd h h4, fun _ => by rw [if_neg (by simp), if_pos h4]⟩
  · have hn : (rd zs p).2.2 ≠ 0 := by rw [hx]; exact h3
    rw [numR_no hn, hx] at h1
    cases h1
    rw [numR_f h3] at h2
    cases h2
    rw [hx]
    exact ⟨⟨by omega, by omega⟩, ⟨by omega, by omega⟩, ⟨by omega, by omega⟩, ⟨by omega, by omega⟩, fun h => absurd h h3, fun _ => by rw [if_pos h3]⟩
theorem info39 : (Try.prog.info? 39).map (·.size) = some 3 := by kernel_rfl
theorem one39 (x y z : Int) : (#[Value.int .i64 x, Value.int .i64 y, Value.int .i64 z] : Array Value).all (·.oneCell') = true := by simp [Value.oneCell']
theorem sttL_end {zs : List Int} {k : Nat} {p : Int} {m : Int → Option Int} {ref : Bool} (h : (zs.length : Int) ≤ p) : sttL zs (k + 1) p m ref = if ref then ((0, 0, 0), 171) else (((m 1).getD 0, (m 7).getD 0, (m 6).getD (-1)), 0) := by rw [sttL, if_pos h]
/-- The settings' own block is written at last. -/
theorem SR.fin {w wr : World} {sb rb g mb n : Nat} {zs : List Int} {ref : Bool} {p f : Int} {cnt : Nat} {m : Int → Option Int} {k : Nat} (h : SR w sb rb g mb n zs wr ref p f cnt m) (hb : w.heap.size ≤ sb) (x y z : Int) :
    ((wr.drewN k).setRow sb #[.int .i64 x, .int .i64 y, .int .i64 z]).heap[sb]? = some (.cells #[.int .i64 x, .int .i64 y, .int .i64 z] 39 (0, 0)) ∧ Q w ((wr.drewN k).setRow sb #[.int .i64 x, .int .i64 y, .int .i64 z]) :=
  ⟨setRow_heap _ _ _ _ 39 _ h.s, ((Keep.refl (fun i => i = sb) (wr.drewN k)).setRow sb _ (.inl rfl)).below (h.q.drewN k) (h.q.drewN k).size (fun i e => by omega)⟩
/-- What settingsOf tells. -/
def setA (zs : List Int) : Value := .tuple #[.agg #[.int .i64 (setE zs).1.1, .int .i64 (setE zs).1.2.1, .int .i64 (setE zs).1.2.2], .int .i64 (setE zs).2]
set_option maxHeartbeats 16000000 in
theorem settings_any (a : Option Addr) (n c : Nat) (zs : List Int) (w : World) (hl : zs.length = n) (hn : n ≤ 140737488355328) (hz : ∀ y ∈ zs, 0 ≤ y ∧ y < 256) (hs : Seg w a zs) :
    Calls Try.prog 42 #[.slice a n c] w fun e w' => e = .returned (setA zs) ∧ Q w w' := by
  have HZ := hid hz
  have HS := hid hs
  have HL := hid hl
  have hmm := @run_makeMap Try.prog
  clear hl hz hs
  go_enter Try.func42, Try.ntmps42
  go_wp2_with (go_at_call 52; refine (open_any a n c zs _ HL.out (by omega) (HS.out.q ((Q.refl _).alloc _))).mono ?_; rintro e w1 ⟨g, rb, rfl, q1, hrb, hg, hgr, r1, o1⟩)
  have hW : (w1.alloc (Obj.map #[] 0)).heap.size = w1.heap.size + 1 := by simp
  have hw0 : (w.alloc (Obj.cells #[Value.int IntKind.i64 0, Value.int IntKind.i64 0, Value.int IntKind.i64 0] 39)).heap.size = w.heap.size + 1 := by simp
  have hb0 := blk_q q1 (heap_alloc_new w (Obj.cells #[Value.int IntKind.i64 0, Value.int IntKind.i64 0, Value.int IntKind.i64 0] 39))
  rw [hw0] at hrb hg o1
  have hq1 := q1.size
  rw [hw0] at hq1
  have hrl := r1.lt
  have hgl := (World.ownsRow.lt o1 g rfl).2
  have HB := hid (show SB w w.heap.size rb g w1.heap.size from ⟨Nat.le_refl _, by omega, by omega, by omega, by omega, by omega, hgr, by omega⟩)
  have hmp : Mo (w1.alloc (Obj.map #[] 0)) w1.heap.size 0 (fun _ => none) := by
    have h1 := World.ownsMap_made (H := Unit) w1 Try.prog 3 (plainElem Try.prog 3)
    exact ⟨_, h1, fun i z => rfl⟩
  have q2 : Q w1 (w1.alloc (Obj.map #[] 0)) := (Q.refl w1).alloc _
  have H0 := hid (show SR w w.heap.size rb g w1.heap.size n zs (w1.alloc (Obj.map #[] 0)) false 0 0 0 (fun _ => none) from
    ⟨((Q.refl w).alloc _).trans (q1.trans q2), blk_q q2 hb0, r1.q q2, ⟨o1.seg.q q2, fun _ ad e => by cases e; exact hgr⟩, hmp, by omega, by omega, fun _ => ⟨by simp, n + 1, by omega, by unfold setE; rw [HL.out]⟩, fun h => absurd rfl h⟩)
  clear q1 hrb hg hgr r1 o1 hW hw0 hb0 hq1 hrl hgl hmp q2 HS
  generalize w.heap.size = sb at *
  generalize w1.heap.size = mb at *
  generalize World.alloc w1 _ = w2 at *
  clear w1
  go_loopw [6] (fun rv wr => ∃ (ref : Bool) (p f : Int) (cnt : Nat) (m : Int → Option Int), rv = .bool ref ∧ SR w sb rb g mb n zs wr ref p f cnt m) (fun _ wr => msr wr rb n)
  case atStart => exact ⟨false, 0, 0, 0, fun _ => none, rfl, H0.out⟩
  case round =>
    obtain ⟨ref, p, f, cnt, m, rfl, hS⟩ := hrel
    have S := hid hS
    have B := hid HB.out
    clear hS H0
    have hp := S.out.b
    have HLE := hid (left_any rb (some ⟨g, 0, none⟩) n n p f wr (by omega) hp.1 hp.2 S.out.r)
    by_cases hf : f = 0
    · subst hf
      rw [if_pos rfl] at HLE
      obtain ⟨hc, k, hk, hset⟩ := S.out.ok rfl
      by_cases hlt : p < (n : Int)
      · obtain ⟨k, rfl⟩ : ∃ k', k = k' + 1 := ⟨k - 1, by omega⟩
        obtain ⟨a1, a2, a3, hA⟩ : ∃ a1 a2 a3, numR zs p 0 = (a1, a2, a3) := ⟨_, _, _, rfl⟩
        obtain ⟨b1, b2, b3, hBB⟩ : ∃ b1 b2 b3, numR zs a2 a3 = (b1, b2, b3) := ⟨_, _, _, rfl⟩
        have hr := set_round (k := k) (m := m) (ref := ref) HZ.out hp.1 (by rw [HL.out]; exact hlt) hA hBB
        have N1 := hid (fun (W : World) (r : Rdr W 102 rb (some ⟨g, 0, none⟩) n n p 0) (z : SegOff rb W (some ⟨g, 0, none⟩) zs) => number_any rb (some ⟨g, 0, none⟩) n n zs p 0 W HL.out (by omega) HZ.out z r)
        have N2 := hid (fun (W : World) (r : Rdr W 102 rb (some ⟨g, 0, none⟩) n n a2 a3) (z : SegOff rb W (some ⟨g, 0, none⟩) zs) => number_any rb (some ⟨g, 0, none⟩) n n zs a2 a3 W HL.out (by omega) HZ.out z r)
        rw [hA] at N1
        rw [hBB] at N2
        obtain ⟨⟨ha0, ha1⟩, ⟨hb0, hb1⟩, _, ⟨hb20, hb21⟩, hok, hno⟩ := hr
        rw [hset] at hok hno
        rw [HL.out] at hb21
        have HOK := hid hok
        have HNO := hid hno
        have hgt : (0 : Int) < (n : Int) - p := by omega
        have hcn : cnt + 1 ≤ n + 1 := by omega
        have hcm : cnt < maxLen := by unfold maxLen; omega
        clear hA hBB hok hno hset
        have hkey := key3 (n := a1) (by omega) (by omega)
        have hwb := wfi (n := b1) (by omega) (by omega)
        obtain ⟨tw, htw⟩ : ∃ tw, (m a1).isSome = tw := ⟨_, rfl⟩
        rw [htw] at HOK
        have HR := hid (fun W => isref_any a1 W)
        obtain ⟨ri, hri⟩ : ∃ ri, decide (2 ≤ a1 ∧ a1 ≤ 5) = ri := ⟨_, rfl⟩
        rw [hri] at HR HOK
        have HTW := hid htw
        clear htw hri
        have HFIN := hid (fun (w6 : World) (R2 : Bool) (hR : R2 = (ref || tw || ri)) (k6 : Keep (fun j => j = rb ∨ j = mb) wr w6) (r6 : Rdr w6 102 rb (some ⟨g, 0, none⟩) n n b2 b3) (m6 : Mo w6 mb (cnt + 1) (upd m a1 b1)) =>
          (show SR w sb rb g mb n zs w6 R2 b2 b3 (cnt + 1) (upd m a1 b1) from
            ⟨k6.below S.out.q S.out.q.size (fun i e => by have := B.out; rcases e with e | e <;> (subst e; first | exact this.a2 | exact this.a3)), (k6.block sb (lt_of_block S.out.s) (fun e => e.elim B.out.b1 B.out.b2)).trans S.out.s, r6, ⟨S.out.z.1.keep k6 (fun b hb e => by cases hb; have e2 : g = rb ∨ g = mb := e; have := B.out.b4; have := B.out.b5; omega), S.out.z.2⟩, m6, ⟨hb20, hb21⟩, hcn,
              fun h => ⟨by have := (HOK.out h).1; omega, k, by have := (HOK.out h).1; have := hk; omega, by rw [hR]; exact (HOK.out h).2.symm⟩, fun h => HNO.out h⟩))
        have HM := hid (fun w6 R2 hR k6 r6 m6 => show msr w6 rb n < msr wr rb n from by
          have h6 := HFIN.out w6 R2 hR k6 r6 m6
          rw [msr_of h6.r, msr_of S.out.r, if_pos rfl]
          split
          · rename_i h
            have := (HOK.out h).1
            omega
          · omega)
        obtain ⟨DD, hown, hat⟩ := S.out.mp
        have HAT := hid hat
        clear hat hp hc hlt hk
        have body : (ref = true ∨ (ref = false ∧ tw = true) ∨ (ref = false ∧ tw = false)) := by cases ref <;> cases tw <;> simp
        rcases body with rfl | ⟨rfl, rfl⟩ | ⟨rfl, rfl⟩
        all_goals
          go_wp2_with (first
            | (go_at_call 53; refine HLE.out.mono ?_; rintro e w3 ⟨rfl, k3, rfl⟩; have X3 := hid (S.out.r.drewN k3); have Z3 := hid (S.out.z.q ((Q.refl wr).drewN k3)))
            | (have t := X4.out; go_at_call 54; refine (N2.out _ X4.out Z4.out).mono ?_; rintro e w5 ⟨rfl, o5, r5⟩; have X5 := hid r5; have K5 := hid (((Keep.refl (fun i => i = rb) wr).drewN k3).trans (O4.out.trans o5.keep)); have M5 := hid (S.out.mp.keep K5.out (fun e => B.out.b3 e.symm)); have hlk := (M5.out).look a1 (by omega) (by omega) true; rw [HTW.out] at hlk; simp only [if_true] at hlk; clear o5 r5 t)
            | (go_at_call 54; refine (N1.out _ X3.out Z3.out).mono ?_; rintro e w4 ⟨rfl, o4, r4⟩; have X4 := hid r4; have Z4 := hid (Z3.out.only o4); have O4 := hid o4.keep; clear o4 r4)
            | (go_at_call 55; refine (HR.out _).mono ?_; rintro e w51 ⟨rfl, rfl⟩)
            | (at_mapUpdate; obtain ⟨D5, own5, at5⟩ := M5.out; refine wpList_mapUpdate_own _ rfl _ _ _ 97 rfl 3 3 law3 Try.underlying97 _ mb cnt _ rfl own5 hcm _ _ _ rfl rfl hkey _ [] (plainElem_int Try.underlying3 hwb) ?_; intro w6 own6 g6; have K6 := hid ((K5.out.mono (G := fun j => j = rb ∨ j = mb) (fun i _ e => .inl e)).trans (Keep.ofGrown g6 (fun k e => by cases e; exact .inr rfl))); have X6 := hid (X5.out.keep (Keep.ofGrown (F := fun j => j = mb) g6 (fun k e => by cases e; rfl)) (fun e => B.out.b3 e)); have M6 := hid (Mo.put own5 at5 a1 b1 (by omega) (by omega) own6); clear own5 at5 own6 g6))
          refine ⟨⟨_, _, _, _, _, _, _, _, _, _, _, _, _, _, _, _, _, _, _, _, _, _, _, _, _, _, _, _, _, ?rel, rfl⟩, ?measure⟩
          case rel => exact ⟨_, b2, b3, cnt + 1, upd m a1 b1, rfl, HFIN.out _ _ (by simp) K6.out X6.out M6.out⟩
          case measure => exact HM.out _ _ rfl K6.out X6.out M6.out
      · obtain rfl : p = (n : Int) := by omega
        obtain ⟨k, rfl⟩ : ∃ k', k = k' + 1 := ⟨k - 1, by omega⟩
        rw [sttL_end (by rw [HL.out]; exact Int.le_refl _)] at hset
        have hgt : ¬ (0 : Int) < (n : Int) - (n : Int) := by omega
        have hsb := S.out.s
        clear hlt hk hc hp
        cases ref
        · have HSET := hid hset.symm
          have l6 := fun k3 => (S.out.mp.keep ((Keep.refl (fun _ => False) wr).drewN k3) id).look 6 (by omega) (by omega) true
          have l1 := fun k3 => (S.out.mp.keep ((Keep.refl (fun _ => False) wr).drewN k3) id).look 1 (by omega) (by omega) false
          have l7 := fun k3 => (S.out.mp.keep ((Keep.refl (fun _ => False) wr).drewN k3) id).look 7 (by omega) (by omega) false
          simp only [if_true, Bool.false_eq_true, if_false] at l6 l1 l7
          clear hset
          generalize hm1 : m 1 = m1 at *
          generalize hm7 : m 7 = m7 at *
          generalize hm6 : m 6 = m6 at *
          clear hm1 hm7 hm6
          cases m6
          all_goals
            simp only [Option.getD_none, Option.getD_some, Option.isSome_none, Option.isSome_some] at l6
            go_wp2_with (first
              | (go_at_call 53; refine HLE.out.mono ?_; rintro e w3 ⟨rfl, k3, rfl⟩; have y6 := l6 k3; have y1 := l1 k3; have y7 := l7 k3; clear l6 l1 l7)
              | (go_at_call 56; refine (fault_any rb _ n n (n : Int) 0 _ (S.out.r.drewN _)).mono ?_; rintro e w4 ⟨rfl, rfl⟩)
              | (refine wpList_store_row rfl 39 _ _ rfl sb #[.int .i64 _, .int .i64 _, .int .i64 _] rfl rfl 39 _ hsb info39 rfl (one39 _ _ _) ?_))
            refine bodyPost_ret (results42 _ _ sb _ _ _ _ rfl rfl (S.out.fin (k := k3) B.out.a1 _ _ _).1) rfl ⟨?_, (S.out.fin (k := k3) B.out.a1 _ _ _).2⟩
            unfold setA; rw [HSET.out]; rfl
        · have HSET := hid hset.symm
          clear hset
          go_wp2_with (first
            | (go_at_call 53; refine HLE.out.mono ?_; rintro e w3 ⟨rfl, k3, rfl⟩)
            | (go_at_call 56; refine (fault_any rb _ n n (n : Int) 0 _ (S.out.r.drewN _)).mono ?_; rintro e w4 ⟨rfl, rfl⟩)
            | (refine wpList_store_row rfl 39 _ _ rfl sb #[.int .i64 0, .int .i64 0, .int .i64 0] rfl rfl 39 _ hsb info39 rfl (one39 _ _ _) ?_))
          refine bodyPost_ret (results42 _ _ sb 0 0 0 171 rfl rfl (S.out.fin (k := k3) B.out.a1 _ _ _).1) rfl ⟨?_, (S.out.fin (k := k3) B.out.a1 _ _ _).2⟩
          unfold setA; rw [HSET.out]; rfl
    · have HRES := hid (S.out.no hf)
      rw [if_neg hf] at HLE
      have hfb : (f != 0) = true := by simp [hf]
      have hsb := S.out.s
      clear hf hp
      go_wp2_with (first
        | (go_at_call 53; refine HLE.out.mono ?_; rintro e w3 ⟨rfl, k3, rfl⟩)
        | (go_at_call 56; refine (fault_any rb _ n n p f _ (S.out.r.drewN _)).mono ?_; rintro e w4 ⟨rfl, rfl⟩)
        | (refine wpList_store_row rfl 39 _ _ rfl sb #[.int .i64 0, .int .i64 0, .int .i64 0] rfl rfl 39 _ hsb info39 rfl (one39 _ _ _) ?_))
      refine bodyPost_ret (results42 _ _ sb 0 0 0 54 rfl rfl (S.out.fin (k := k3) B.out.a1 _ _ _).1) rfl ⟨?_, (S.out.fin (k := k3) B.out.a1 _ _ _).2⟩
      unfold setA; rw [HRES.out]
end Go.Proofs.Ytdlefmlienfjhaa
