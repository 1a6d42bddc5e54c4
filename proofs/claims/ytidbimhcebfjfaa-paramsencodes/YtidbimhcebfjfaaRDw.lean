/-
  What the document's own Decode does: a contract that the statements' walks use.
-/
import Derived.Test.YtidbimhcebfjfaaRTk
import Derived.Test.YtidbimhcebfjfaaRefReaderTwo
namespace Go.Proofs.Ytidbimhcebfjfaa
open Go.RowKit
set_option linter.unusedVariables false
set_option maxRecDepth 20000

set_option maxHeartbeats 1000000 in
theorem rleft0 (rb : Nat) (a : Option Addr) (n c : Nat) (p : Int) (w : World) (hn : n ≤ 140737488355328) (hp : 0 ≤ p) (hpn : p ≤ n) (hr : Rdr w 73 rb a n c p 0) :
    Calls Try.prog 35 #[.pointer (some ⟨rb, 0, none⟩)] w fun e w' => e = .returned (.int .i64 ((n : Int) - p)) ∧ Q w w' := by
  have c0 := hr.c0
  have c1 := hr.c1
  have c2 := hr.c2
  clear hr
  go_enter Try.func35, Try.ntmps35
  go_wp2
  go_quiet (fail)
  go_wp2
  go_ret
  exact ⟨rfl, (Q.refl w).drewN _⟩
theorem src_int (w : World) (i : Int) : Src Try.prog 1 74 (.slice (some ⟨w.heap.size, 0, none⟩) 1 1) 1 (i64s [i]) (w.alloc (.cells #[.int .i64 i] 3)) := by
  refine Src.ofSlice (size := 1) _ Try.underlying74 ⟨w.heap.size, 0, none⟩ 1 1 (i64s [i]) (by simp) (fun j u hj => ?_) (ints_oneCell _ _)
  have hj0 : j = 0 := by
    rcases Nat.lt_or_ge j 1 with hh | hh
    · omega
    · rw [List.getElem?_eq_none (by simpa using hh)] at hj; cases hj
  subst hj0
  have e : (⟨w.heap.size, 0, none⟩ : Addr).add 0 = ⟨w.heap.size, 0, none⟩ := by simp [Addr.add]
  rw [e, cell_of_row _ w.heap.size 0 _ 3 (0, 0) (heap_alloc_new w _)]
  exact hj
/-- One number more behind a row of numbers. -/
theorem rown_one {w : World} {d : Sv} {zs : List Int} (i : Int) (h : RowN w d zs) (hn : d.n ≤ 20000) :
    ∃ d' w', (Builtin.append_ #[74, 74] 74 #[.slice d.a d.n d.c, .slice (some ⟨w.heap.size, 0, none⟩) 1 1]).run Try.prog (w.alloc (.cells #[.int .i64 i] 3)) = .ok (.slice d'.a d'.n d'.c) w' ∧ RowN w' d' (zs ++ [i]) ∧ Keep (fun b => blk d.a = some b) w w' ∧ d'.n = d.n + 1 ∧ (blk d'.a = blk d.a ∨ ∀ b, blk d'.a = some b → w.heap.size ≤ b) := by
  obtain ⟨i0, hi, hz0, hz1, hz2⟩ := info_parts info3
  have h2 : RowN (w.alloc (.cells #[.int .i64 i] 3)) d zs := Sub.q h ((Q.refl w).alloc _)
  obtain ⟨a', c', w', h1, h2, h3, h4⟩ := sub_append (P := Try.prog) (ty := 74) Try.underlying74 hi hz0 hz1 hz2 rfl h2 (src_int w i) (by unfold maxLen; omega) (by omega)
  refine ⟨⟨a', d.n + 1, c'⟩, w', h1, by show Sub _ _ _ _ _ _ (i64s _); rw [show i64s (zs ++ [i]) = i64s zs ++ i64s [i] from List.map_append]; exact h2, (Keep.ofQ ((Q.refl w).alloc _)).trans h3, rfl, ?_⟩
  rcases h4 with h4 | h4
  · exact .inl h4
  · right
    intro b hb
    rw [h4] at hb
    cases hb
    simp
theorem RowN.cell {w : World} {d : Sv} {zs : List Int} (h : RowN w d zs) {k : Nat} (hk : k < zs.length) : ∃ g off, d.a = some ⟨g, off, none⟩ ∧ w.cell? ⟨g, off + k, none⟩ = some (.int .i64 (zs.getD k 0)) := by
  obtain ⟨g, off, ha, _, hc⟩ := Sub.some_ h (by have := RowN.len h; omega)
  refine ⟨g, off, ha, hc k _ ?_⟩
  rw [List.getElem?_map, List.getElem?_eq_getElem hk, List.getD_eq_getElem?_getD, List.getElem?_eq_getElem hk]; rfl

theorem rbytes_new (rb : Nat) (a : Option Addr) (n c : Nat) (zs : List Int) (p f k : Int) (w : World) (hl : zs.length = n) (hn : n ≤ 140737488355328) (hnc : n ≤ c) (hp : 0 ≤ p) (hpn : p ≤ n) (hs : SegOff rb w a zs) (hr : Rdr w 73 rb a n c p f) :
    Calls Try.prog 37 #[.pointer (some ⟨rb, 0, none⟩), .int .i64 k] w fun e w' => ∃ a' m c', e = .returned (.slice a' m c') ∧ Only rb w w' ∧ Rdr w' 73 rb a n c (takeR zs p f k).2.1 (takeR zs p f k).2.2 ∧ Seg w' a' (takeR zs p f k).1 ∧ (takeR zs p f k).1.length = m ∧ m ≤ n ∧ ∀ b, blk a' = some b → w.heap.size ≤ b ∧ b < w'.heap.size := by
  unfold takeR
  by_cases hf : f = 0
  · subst hf
    rw [if_neg (by simp)]
    by_cases hk : k < 0
    · rw [if_pos hk]
      refine (rbytes_neg rb a n c p k w hk hr).mono ?_
      rintro e w' ⟨rfl, ho, hr'⟩
      exact ⟨none, 0, 0, rfl, ho, hr', seg_nil _ _, rfl, Nat.zero_le _, fun b hb => (by cases hb)⟩
    · rw [if_neg hk]
      by_cases hsh : (n : Int) - p < k
      · rw [hl, if_pos hsh]
        refine (rbytes_short rb a n c p k w hn hp hpn (by omega) hsh hr).mono ?_
        rintro e w' ⟨rfl, ho, hr'⟩
        exact ⟨none, 0, 0, rfl, ho, hr', seg_nil _ _, rfl, Nat.zero_le _, fun b hb => (by cases hb)⟩
      · rw [hl, if_neg hsh]
        obtain ⟨p, rfl⟩ := Int.eq_ofNat_of_zero_le hp
        obtain ⟨k, rfl⟩ := Int.eq_ofNat_of_zero_le (a := k) (by omega)
        have hbl : ((zs.drop p).take k).length = k := by simp; omega
        refine (rbytes_k rb a _ n c p k _ _ w hn hnc (by omega) hr (slice_run a n c p k (by omega)) hbl (seg_cut hs.1 (by omega) (by omega))).mono ?_
        rintro e w' ⟨g, rfl, ho, hr', ho', _⟩
        exact ⟨_, k, _, rfl, ho, hr', ho'.seg, hbl, by omega, fun b hb => (by cases hb; exact World.ownsRow.lt ho' g rfl)⟩
  · rw [if_pos hf]
    refine (rbytes_f rb a n c p f k w hf hr).mono ?_
    rintro e w' ⟨rfl, rfl⟩
    exact ⟨none, 0, 0, rfl, Only.refl _ _, hr, seg_nil _ _, rfl, Nat.zero_le _, fun b hb => (by cases hb)⟩


theorem tkn_byt {m m1 : Pm} {i : Nat} {v : List Int} (ht : tkn m i v = some m1) (j : Nat) (hj : kd j = 2 ∨ kd j = 3) : m1.byt j = if j = i then v else m.byt j := by
  unfold tkn at ht
  by_cases h1 : kd i = 1
  · rw [if_pos h1] at ht
    have hne : j ≠ i := by intro e; subst e; omega
    rw [if_neg hne]
    by_cases hr : ((rd v 0).2.2 == 0 && (rd v 0).2.1 == (v.length : Int)) = true
    · rw [if_pos hr] at ht; rw [← Option.some.inj ht]
    · rw [if_neg hr] at ht; cases ht
  · rw [if_neg h1] at ht
    by_cases h2 : kd i = 2 ∨ kd i = 3
    · rw [if_pos h2] at ht; rw [← Option.some.inj ht]
    · rw [if_neg h2] at ht
      have hne : j ≠ i := by intro e; subst e; omega
      rw [if_neg hne]
      by_cases h4 : kd i = 4
      · rw [if_pos h4] at ht
        by_cases hv : v = []
        · rw [if_pos hv] at ht; rw [← Option.some.inj ht]
        · rw [if_neg hv] at ht; cases ht
      · rw [if_neg h4] at ht; rw [← Option.some.inj ht]

def off3 (x y z : Nat) (d : Sv) : Prop := ∀ b, blk d.a = some b → b ≠ x ∧ b ≠ y ∧ b ≠ z
structure RI (w wr : World) (pb tb rb n c : Nat) (a : Option Addr) (zs : List Int) (p : Int) (seen : List Nat) (d : Sv) (m : Pm) (s : Nat → Sv) : Prop where
  q : Q w wr
  b : RB wr pb (rc m s)
  t : RB wr tb (rc zeM (fun _ => nilS))
  r : Rdr wr 73 rb a n c p 0
  z : SegOff rb wr a zs
  dr : RowN wr d (seen.reverse.map (fun i : Nat => (i : Int)))
  o : off3 pb tb rb d ∧ ∀ b, blk d.a = some b → w.heap.size ≤ b
  y : Bys pb tb rb wr m s
  e : ∀ i b, (kd i = 2 ∨ kd i = 3) → blk (s i).a = some b → blk d.a ≠ some b ∧ b < wr.heap.size
structure RDB (w : World) (pb tb rb : Nat) (a : Option Addr) (zs : List Int) : Prop where
  a1 : w.heap.size ≤ pb
  a2 : w.heap.size ≤ tb
  a3 : w.heap.size ≤ rb
  b3 : pb ≠ tb ∧ pb ≠ rb ∧ tb ≠ rb
  l : Seg w a zs
def AnsR (w : World) (zs : List Int) (srv : Bool) (e : Ending) (w' : World) : Prop :=
  ∃ s, e = .returned (.tuple #[.agg (rc (decA zs srv).1 s), .int .i64 (decA zs srv).2.1, .int .i64 (decA zs srv).2.2]) ∧ Q w w' ∧ By w' (decA zs srv).1 s
theorem ret_rdc {a : Act} {w : World} {R : Ending → World → Prop} (hd : a.defers = [])
    (g : Nat) (cs : Array Value) (hs : cs.size = 52) (hp : a.tmps.getD 4 undef = .pointer (some ⟨g, 0, none⟩)) (x y : Int) (h5 : a.tmps.getD 5 undef = .int .i64 x) (h6 : a.tmps.getD 6 undef = .int .i64 y) (hb : w.heap[g]? = some (.cells cs 36 (0, 0))) (hR : R (.returned (.tuple #[.agg cs, .int .i64 x, .int .i64 y])) w) : bodyPost Try.prog Try.f20 R .ret a w := by
  have hp' : a.tmps[4]?.getD undef = .pointer (some ⟨g, 0, none⟩) := by simpa using hp
  have h5' : a.tmps[5]?.getD undef = .int .i64 x := by simpa using h5
  have h6' : a.tmps[6]?.getD undef = .int .i64 y := by simpa using h6
  have hl := run_loadVar_row (P := Try.prog) w g 36 36 cs (0, 0) _ hb Try.underlying36 rfl (by rw [hs]; kernel_rfl)
  refine ⟨hd, _, ?_, hR⟩
  simp [results, hp', h5', h6', asAddr, hl]

set_option maxHeartbeats 8000000 in
theorem rdecode_huge (a : Option Addr) (n c : Nat) (zs : List Int) (srv : Bool) (w : World) (hl : zs.length = n) (hn : n ≤ 140737488355328) (hh : 16384 < n) :
    Calls Try.prog 20 #[.slice a n c, .bool srv] w fun e w' => AnsR w zs srv e w' := by
  have HA := hid (show decA zs srv = (zeM, 0, 52) from by unfold decA; rw [if_pos (by omega)])
  have hd : decide ((16384 : Int) < (n : Int)) = true := by simp; omega
  clear hl
  go_enter Try.func20, Try.ntmps20
  go_wp2_with (refine wpList_store_row rfl 36 _ _ rfl w.heap.size (rc zeM (fun _ => nilS)) rfl rfl 36 _ (heap_alloc_new w _) info36 rfl (rc_one _ _) ?_; refine Hid.out ?_)
  refine hid ?_
  generalize hw1 : World.setRow _ _ _ = w1
  have q1 : Q w w1 := by rw [← hw1]; exact (((Keep.refl (fun _ => False) w).alloc _).setRow _ _ (.inr (Nat.le_refl _))).toQ (fun _ _ => id)
  have b1 : w1.heap[w.heap.size]? = some (.cells (rc zeM (fun _ => nilS)) 36 (0, 0)) := by rw [← hw1]; exact setRow_heap _ _ _ _ 36 _ (heap_alloc_new w _)
  clear hw1
  go_wp2
  refine ret_rdc rfl w.heap.size (rc zeM (fun _ => nilS)) rfl rfl 0 52 rfl rfl b1 ⟨fun _ => nilS, ?_, q1, ?_⟩
  · rw [HA.out]
  · rw [HA.out]; exact by_zero w1

def RDR (w : World) (pb tb rb n c : Nat) (a : Option Addr) (zs : List Int) (srv : Bool) (dv : Value) (wr : World) : Prop :=
  ∃ (k : Nat) (p : Int) (seen : List Nat) (da : Option Addr) (dn dc : Nat) (m : Pm) (s : Nat → Sv), dv = .slice da dn dc ∧ RI w wr pb tb rb n c a zs p seen ⟨da, dn, dc⟩ m s ∧ 0 ≤ p ∧ p ≤ n ∧ (n : Int) - p < (k : Int) ∧ (seen.length : Int) ≤ p ∧ decM zs srv k p seen m = decM zs srv (n + 1) 0 [] usM
theorem RB.keep {F : Nat → Prop} {w w' : World} {b : Nat} {cs : Array Value} (h : RB w b cs) (k : Keep F w w') (hF : ¬ F b) : RB w' b cs := (k.block b (lt_of_block h) hF).trans h
/-- How far the search among the ids that have been there has come. -/
def InR (w1 : World) (ids : List Int) (i : Int) (k : Nat) (wr : World) : Prop := k ≤ ids.length ∧ (∀ j, j < k → ids.getD j 0 ≠ i) ∧ wr = w1
theorem plcR {w : World} {rb : Nat} {a : Option Addr} {n c : Nat} {p f : Int} (h : Rdr w 73 rb a n c p f) : plc w rb = p.toNat := by unfold plc; rw [h.c1]
theorem seen_mem {seen : List Nat} {i : Nat} : i ∈ seen ↔ ∃ j, j < (seen.reverse.map (fun i : Nat => (i : Int))).length ∧ (seen.reverse.map (fun i : Nat => (i : Int))).getD j 0 = (i : Int) := by
  constructor
  · intro h
    have h2 : (i : Int) ∈ seen.reverse.map (fun i : Nat => (i : Int)) := List.mem_map.2 ⟨i, List.mem_reverse.2 h, rfl⟩
    obtain ⟨j, hj, e⟩ := List.mem_iff_getElem.1 h2
    exact ⟨j, hj, by rw [List.getD_eq_getElem?_getD, List.getElem?_eq_getElem hj]; exact e⟩
  · rintro ⟨j, hj, e⟩
    rw [List.getD_eq_getElem?_getD, List.getElem?_eq_getElem hj] at e
    have h2 : (i : Int) ∈ seen.reverse.map (fun i : Nat => (i : Int)) := List.mem_iff_getElem.2 ⟨j, hj, e⟩
    obtain ⟨x, hx, e2⟩ := List.mem_map.1 h2
    have : x = i := by omega
    subst this
    exact List.mem_reverse.1 hx

set_option maxHeartbeats 16000000 in
theorem rdecode_in (a : Option Addr) (n c : Nat) (zs : List Int) (srv : Bool) (w : World) (hl : zs.length = n) (hh : n ≤ 16384) (hnc : n ≤ c) (hz : ∀ y ∈ zs, 0 ≤ y ∧ y < 256) (hs : Seg w a zs) :
    Calls Try.prog 20 #[.slice a n c, .bool srv] w fun e w' => AnsR w zs srv e w' := by
  have HA := hid (decA_in (srv := srv) hl hh)
  have HZ := hid hz
  have HS := hid hs
  have HL := hid hl
  have HNC := hid hnc
  have hd : decide ((16384 : Int) < (n : Int)) = false := by simp; omega
  clear hl hz hs hnc
  go_enter Try.func20, Try.ntmps20
  go_wp2_with (first
    | (go_at_call 17; refine (rusual_any _).mono ?_; rintro e w1 ⟨rfl, q1⟩; have T1 := hid (show RB w1 w.heap.size (rc zeM (fun _ => nilS)) from (Below.block q1 w.heap.size (by simp)).trans (heap_alloc_new w _)); have Q1 := hid (((Q.refl w).alloc _).trans q1); clear q1)
    | (refine wpList_store_row rfl 36 _ _ rfl w1.heap.size (rc usM (fun _ => nilS)) rfl rfl 36 _ (heap_alloc_new w1 _) info36 rfl (rc_one _ _) ?_; refine Hid.out ?_))
  refine hid ?_
  generalize hw2 : World.setRow _ _ _ = w2
  have k2 : Keep (fun i => i = w1.heap.size) w1 w2 := by rw [← hw2]; exact ((Keep.refl _ w1).alloc _).setRow _ _ (.inl rfl)
  have R2 := hid (show RB w2 w1.heap.size (rc usM (fun _ => nilS)) from by rw [← hw2]; exact setRow_heap _ _ _ _ 36 _ (heap_alloc_new w1 _))
  have l1 := lt_of_block T1.out
  have T2 := hid (show RB w2 w.heap.size (rc zeM (fun _ => nilS)) from (k2.block _ l1 (by omega)).trans T1.out)
  have Q2 := hid (show Q w w2 from k2.below Q1.out Q1.out.size (fun i e => by have := Q1.out.size; omega))
  clear hw2 k2
  go_wp2_with fail
  generalize hw3 : World.alloc w2 _ = w3
  have q3 : Q w2 w3 := by rw [← hw3]; exact (Q.refl w2).alloc _
  have r3 : Rdr w3 73 w2.heap.size a n c 0 0 := by rw [← hw3]; exact heap_alloc_new w2 _
  clear hw3
  have lr := lt_of_block R2.out
  have HB := hid (show RDB w w1.heap.size w.heap.size w2.heap.size a zs from ⟨Q1.out.size, Nat.le_refl _, Q2.out.size, ⟨by omega, by omega, by omega⟩, HS.out⟩)
  have H0 := hid (show RDR w w1.heap.size w.heap.size w2.heap.size n c a zs srv (.slice none 0 0) w3 from
    ⟨n + 1, 0, [], none, 0, 0, usM, fun _ => nilS, rfl, ⟨Q2.out.trans q3, R2.out.q q3, T2.out.q q3, r3, ⟨(HS.out.q Q2.out).q q3, fun hne ad e => by obtain ⟨b, off, h1, h2⟩ := HS.out hne; rw [h1] at e; cases e; have := lt_of_cell (h2 0 (List.length_pos_iff.2 hne)); have := Q2.out.size; intro e; dsimp only at e; omega⟩, sub_nil _ _ _, ⟨fun b hb => (by cases hb), fun b hb => (by cases hb)⟩, fun i _ => ⟨seg_nil _ _, rfl, fun b hb => (by cases hb)⟩, fun i b _ hb => (by cases hb)⟩, by omega, by omega, by omega, by simp, rfl⟩)
  clear q3 r3 lr l1 R2 T2 Q2 T1 Q1
  generalize w1.heap.size = pb at *
  generalize w.heap.size = tb at *
  generalize w2.heap.size = rb at *
  clear w1 w2
  go_loopw [9] (fun dv wr => RDR w pb tb rb n c a zs srv dv wr) (fun _ wr => n - plc wr rb)
  case atStart => exact H0.out
  case round =>
    obtain ⟨k, p, seen, da, dn, dc, m, s, rfl, hD, h0, h1, hk, hsn, hdec⟩ := hrel
    have D := hid hD
    have DBx := hid HB.out
    have HDEC := hid hdec
    clear hD hdec H0
    by_cases hlt : p < (n : Int)
    · have hdl : decide ((0 : Int) < (n : Int) - p) = true := by simp; omega
      obtain ⟨k, rfl⟩ : ∃ k', k = k' + 1 := ⟨k - 1, by omega⟩
      have B1 := numR_place (zs := zs) (f := 0) HZ.out h0 (by rw [HL.out]; exact h1)
      have HPO := hid (show parO zs p = ((numR zs p 0).1, takeR zs (numR zs (numR zs p 0).2.1 (numR zs p 0).2.2).2.1 (numR zs (numR zs p 0).2.1 (numR zs p 0).2.2).2.2 (numR zs (numR zs p 0).2.1 (numR zs p 0).2.2).1) from rfl)
      have B2 := numR_place (zs := zs) (f := (numR zs p 0).2.2) HZ.out B1.1 B1.2.1
      have HVB := hid (parO_val (p := p) HZ.out)
      have N1 := hid (fun (W : World) (r : Rdr W 73 rb a n c p 0) (z : SegOff rb W a zs) => rnumber_any rb a n c zs p 0 W HL.out (by omega) HZ.out z r)
      generalize (numR zs p 0).1 = a1 at *
      generalize (numR zs p 0).2.1 = a2 at *
      generalize (numR zs p 0).2.2 = a3 at *
      have N2 := hid (fun (W : World) (r : Rdr W 73 rb a n c a2 a3) (z : SegOff rb W a zs) => rnumber_any rb a n c zs a2 a3 W HL.out (by omega) HZ.out z r)
      generalize (numR zs a2 a3).1 = b1 at *
      generalize (numR zs a2 a3).2.1 = b2 at *
      generalize (numR zs a2 a3).2.2 = b3 at *
      rw [HL.out] at B1 B2
      have N3 := hid (fun (W : World) (r : Rdr W 73 rb a n c b2 b3) (z : SegOff rb W a zs) => rbytes_new rb a n c zs b2 b3 b1 W HL.out (by omega) HNC.out B2.1 B2.2.1 z r)
      generalize hc : takeR zs b2 b3 b1 = C at *
      clear hc
      obtain ⟨v, c2, c3⟩ := C
      obtain ⟨i, rfl⟩ : ∃ i : Nat, a1 = (i : Int) := ⟨a1.toNat, by omega⟩
      rw [HPO.out] at HVB
      clear B1 B2
      have p1 := D.out.r.c1
      by_cases hf : c3 ≠ 0
      · have HRES := hid (decM_short (srv := srv) (k := k) (seen := seen) (m := m) (show ¬ (zs.length : Int) ≤ p from by rw [HL.out]; omega) (by rw [HPO.out]; exact hf))
        have hb : (c3 != 0) = true := by simpa using hf
        clear hf
        go_wp2_with (first
          | (go_at_call 35; refine (rleft0 rb _ n c p _ (by omega) h0 h1 D.out.r).mono ?_; rintro e w6 ⟨rfl, q6⟩; have X6 := hid (D.out.r.q q6); have x61 := (D.out.r.q q6).c1; have hr6 := (D.out.r.q q6).lt; have Z6 := hid (D.out.z.q q6); have K6 := hid (Keep.ofQ (F := fun j => j = rb) q6); clear q6)
          | (have t := A8.out; go_at_call 36; refine (N2.out _ X8.out Z8.out).mono ?_; rintro e w9 ⟨rfl, o9, r9⟩; have X9 := hid r9; have Z9 := hid (Z8.out.only o9); have K9 := hid (K8.out.trans o9.keep); clear o9 r9 t)
          | (go_at_call 36; refine (N1.out _ X6.out Z6.out).mono ?_; rintro e w8 ⟨rfl, o8, r8⟩; have X8 := hid r8; have A8 := hid r8; have Z8 := hid (Z6.out.only o8); have K8 := hid (K6.out.trans o8.keep); clear o8 r8 x61 hr6)
          | (go_at_call 37; refine (N3.out _ X9.out Z9.out).mono ?_; rintro e w10 ⟨ga, my, gc, rfl, o10, r10, y10, hml, hmy, hnew⟩; have X10 := hid r10; have x102 := r10.c2; have hr10 := r10.lt; have Z10 := hid (Z9.out.only o10); have K10 := hid (K9.out.trans o10.keep); have Y10 := hid y10; have HM := hid hml; have HNW := hid (show ∀ b, blk ga = some b → wr.heap.size ≤ b from fun b hb => Nat.le_trans K9.out.size (hnew b hb).1); have HNL := hid (show ∀ b, blk ga = some b → b < w10.heap.size from fun b hb => (hnew b hb).2); clear o10 r10 y10 hml hnew; have TX := hid (D.out.t.keep K10.out (fun e => DBx.out.b3.2.2 e)); have QX := hid (show Q w w10 from K10.out.below D.out.q D.out.q.size (fun i e => by subst e; exact DBx.out.a3)))
          | (refine wpList_store_row rfl 36 _ _ rfl tb (rc zeM (fun _ => nilS)) rfl rfl 36 _ TX.out info36 rfl (rc_one _ _) ?_; refine Hid.out ?_))
        refine hid ?_
        generalize hw14 : World.setRow _ _ _ = w14
        have k14 : Keep (fun i => i = tb) w10 w14 := by rw [← hw14]; exact (Keep.refl _ w10).setRow _ _ (.inl rfl)
        have b14 : w14.heap[tb]? = some (.cells (rc zeM (fun _ => nilS)) 36 (0, 0)) := by rw [← hw14]; exact setRow_heap _ _ _ _ 36 _ TX.out
        clear hw14
        have q14 : Q w w14 := k14.below QX.out QX.out.size (fun i e => by subst e; exact DBx.out.a2)
        go_wp2
        refine ret_rdc rfl tb (rc zeM (fun _ => nilS)) rfl rfl p 12 rfl rfl b14 ⟨fun _ => nilS, ?_, q14, ?_⟩
        · rw [HA.out, ← HDEC.out, HRES.out]
        · rw [HA.out, ← HDEC.out, HRES.out]; exact by_zero w14
      have hc30 : c3 = 0 := by omega
      subst hc30
      by_cases hi : i ∈ seen
      · have HRES := hid (decM_twice (srv := srv) (k := k) (seen := seen) (m := m) (show ¬ (zs.length : Int) ≤ p from by rw [HL.out]; omega) (by rw [HPO.out]) (by rw [HPO.out]; exact hi))
        have HSE := hid (seen_mem.1 hi)
        clear hi hf
        go_wp2_with (first
          | (go_at_call 35; refine (rleft0 rb _ n c p _ (by omega) h0 h1 D.out.r).mono ?_; rintro e w6 ⟨rfl, q6⟩; have X6 := hid (D.out.r.q q6); have x61 := (D.out.r.q q6).c1; have hr6 := (D.out.r.q q6).lt; have Z6 := hid (D.out.z.q q6); have K6 := hid (Keep.ofQ (F := fun j => j = rb) q6); clear q6)
          | (have t := A8.out; go_at_call 36; refine (N2.out _ X8.out Z8.out).mono ?_; rintro e w9 ⟨rfl, o9, r9⟩; have X9 := hid r9; have Z9 := hid (Z8.out.only o9); have K9 := hid (K8.out.trans o9.keep); clear o9 r9 t)
          | (go_at_call 36; refine (N1.out _ X6.out Z6.out).mono ?_; rintro e w8 ⟨rfl, o8, r8⟩; have X8 := hid r8; have A8 := hid r8; have Z8 := hid (Z6.out.only o8); have K8 := hid (K6.out.trans o8.keep); clear o8 r8 x61 hr6)
          | (go_at_call 37; refine (N3.out _ X9.out Z9.out).mono ?_; rintro e w10 ⟨ga, my, gc, rfl, o10, r10, y10, hml, hmy, hnew⟩; have X10 := hid r10; have x102 := r10.c2; have hr10 := r10.lt; have Z10 := hid (Z9.out.only o10); have K10 := hid (K9.out.trans o10.keep); have Y10 := hid y10; have HM := hid hml; have HNW := hid (show ∀ b, blk ga = some b → wr.heap.size ≤ b from fun b hb => Nat.le_trans K9.out.size (hnew b hb).1); have HNL := hid (show ∀ b, blk ga = some b → b < w10.heap.size from fun b hb => (hnew b hb).2); clear o10 r10 y10 hml hnew; have TX := hid (D.out.t.keep K10.out (fun e => DBx.out.b3.2.2 e)); have QX := hid (show Q w w10 from K10.out.below D.out.q D.out.q.size (fun i e => by subst e; exact DBx.out.a3)); have DR := hid (Sub.keep D.out.dr K10.out (fun b hb e => (D.out.o.1 b hb).2.2 e))))
        have hdn : dn = seen.length := by have := RowN.len (d := ⟨da, dn, dc⟩) DR.out; simp at this; omega
        have hd16 : dn ≤ 16384 := by omega
        clear hdn
        generalize hids : seen.reverse.map (fun i : Nat => (i : Int)) = ids at *
        clear hids
        have hdl2 : ids.length = dn := RowN.len (d := ⟨da, dn, dc⟩) DR.out
        go_loop [14] (fun iv => ∃ q : Nat, iv = .int .i64 q ∧ q ≤ dn ∧ ∀ j, j < q → ids.getD j 0 ≠ (i : Int)) (fun iv => dn - (intOf iv).toNat)
        case atStart => exact ⟨0, rfl, by omega, fun j hj => by omega⟩
        case round =>
          obtain ⟨q, rfl, hq, hno⟩ := hrel
          have HNO := hid hno
          clear hno
          by_cases hql : q < dn
          · have hqd : decide ((q : Int) < (dn : Int)) = true := by simp; omega
            obtain ⟨g0, o0, hda, hcell⟩ := RowN.cell (d := ⟨da, dn, dc⟩) DR.out (k := q) (by rw [hdl2]; exact hql)
            dsimp only at hda
            subst hda
            generalize hxx : ids.getD q 0 = xx at *
            have HX := hid hxx
            clear hxx
            have hgl := lt_of_cell hcell
            by_cases hx : xx = (i : Int)
            · subst hx
              have hb2 : ((i : Int) == (i : Int)) = true := by simp
              go_wp2_with ((refine wpList_store_row rfl 36 _ _ rfl tb (rc zeM (fun _ => nilS)) rfl rfl 36 _ TX.out info36 rfl (rc_one _ _) ?_; refine Hid.out ?_))
              refine hid ?_
              generalize hw14 : World.setRow _ _ _ = w14
              have k14 : Keep (fun i => i = tb) w10 w14 := by rw [← hw14]; exact (Keep.refl _ w10).setRow _ _ (.inl rfl)
              have b14 : w14.heap[tb]? = some (.cells (rc zeM (fun _ => nilS)) 36 (0, 0)) := by rw [← hw14]; exact setRow_heap _ _ _ _ 36 _ TX.out
              clear hw14
              have q14 : Q w w14 := k14.below QX.out QX.out.size (fun i e => by subst e; exact DBx.out.a2)
              go_wp2
              refine ret_rdc rfl tb (rc zeM (fun _ => nilS)) rfl rfl p 90 rfl rfl b14 ⟨fun _ => nilS, ?_, q14, ?_⟩
              · rw [HA.out, ← HDEC.out, HRES.out]
              · rw [HA.out, ← HDEC.out, HRES.out]; exact by_zero w14
            · have hb2 : (xx == (i : Int)) = false := by simpa using hx
              have HXN := hid hx
              clear hx
              go_wp2
              go_round
              case rel => exact ⟨q + 1, by go_num, by omega, fun j hj => by
                by_cases e : j = q
                · subst e; rw [HX.out]; exact HXN.out
                · exact HNO.out j (by omega)⟩
              case measure => simp [intOf]; omega
          · exfalso
            obtain ⟨j, hj, e⟩ := HSE.out
            exact HNO.out j (by omega) e
      have HNI := hid hi
      have HSN := hid (show ∀ j, j < (seen.reverse.map (fun i : Nat => (i : Int))).length → (seen.reverse.map (fun i : Nat => (i : Int))).getD j 0 ≠ (i : Int) from fun j hj e => hi (seen_mem.2 ⟨j, hj, e⟩))
      have HON := hid (parO_on HZ.out h0 (show p ≤ (zs.length : Int) from by rw [HL.out]; exact h1) (by rw [HPO.out]))
      rw [HPO.out, HL.out] at HON
      clear hi hf
      go_wp2_with (first
        | (go_at_call 35; refine (rleft0 rb _ n c p _ (by omega) h0 h1 D.out.r).mono ?_; rintro e w6 ⟨rfl, q6⟩; have X6 := hid (D.out.r.q q6); have x61 := (D.out.r.q q6).c1; have hr6 := (D.out.r.q q6).lt; have Z6 := hid (D.out.z.q q6); have K6 := hid (Keep.ofQ (F := fun j => j = rb) q6); clear q6)
        | (have t := A8.out; go_at_call 36; refine (N2.out _ X8.out Z8.out).mono ?_; rintro e w9 ⟨rfl, o9, r9⟩; have X9 := hid r9; have Z9 := hid (Z8.out.only o9); have K9 := hid (K8.out.trans o9.keep); clear o9 r9 t)
        | (go_at_call 36; refine (N1.out _ X6.out Z6.out).mono ?_; rintro e w8 ⟨rfl, o8, r8⟩; have X8 := hid r8; have A8 := hid r8; have Z8 := hid (Z6.out.only o8); have K8 := hid (K6.out.trans o8.keep); clear o8 r8 x61 hr6)
        | (go_at_call 37; refine (N3.out _ X9.out Z9.out).mono ?_; rintro e w10 ⟨ga, my, gc, rfl, o10, r10, y10, hml, hmy, hnew⟩; have X10 := hid r10; have x102 := r10.c2; have hr10 := r10.lt; have Z10 := hid (Z9.out.only o10); have K10 := hid (K9.out.trans o10.keep); have Y10 := hid y10; have HM := hid hml; have HNW := hid (show ∀ b, blk ga = some b → wr.heap.size ≤ b from fun b hb => Nat.le_trans K9.out.size (hnew b hb).1); have HNL := hid (show ∀ b, blk ga = some b → b < w10.heap.size from fun b hb => (hnew b hb).2); clear o10 r10 y10 hml hnew; have TX := hid (D.out.t.keep K10.out (fun e => DBx.out.b3.2.2 e)); have QX := hid (show Q w w10 from K10.out.below D.out.q D.out.q.size (fun i e => by subst e; exact DBx.out.a3)); have DR := hid (Sub.keep D.out.dr K10.out (fun b hb e => (D.out.o.1 b hb).2.2 e))))
      have hdn : dn = seen.length := by have := RowN.len (d := ⟨da, dn, dc⟩) DR.out; simp at this; omega
      have hd16 : dn ≤ 16384 := by omega
      have HDN := hid hdn
      clear hdn
      generalize hids : seen.reverse.map (fun i : Nat => (i : Int)) = ids at *
      have HIDS := hid hids
      clear hids
      have hdl2 : ids.length = dn := RowN.len (d := ⟨da, dn, dc⟩) DR.out
      go_loop [14] (fun iv => ∃ q : Nat, iv = .int .i64 q ∧ q ≤ dn) (fun iv => dn - (intOf iv).toNat)
      case atStart => exact ⟨0, rfl, by omega⟩
      case round =>
        obtain ⟨q, rfl, hq⟩ := hrel
        by_cases hql : q < dn
        · have hqd : decide ((q : Int) < (dn : Int)) = true := by simp; omega
          obtain ⟨g0, o0, hda, hcell⟩ := RowN.cell (d := ⟨da, dn, dc⟩) DR.out (k := q) (by rw [hdl2]; exact hql)
          dsimp only at hda
          subst hda
          have hxn := HSN.out q (by rw [hdl2]; exact hql)
          generalize ids.getD q 0 = xx at *
          have hgl := lt_of_cell hcell
          have hb2 : (xx == (i : Int)) = false := by simpa using hxn
          clear hxn
          go_wp2
          go_round
          case rel => exact ⟨q + 1, by go_num, by omega⟩
          case measure => simp [intOf]; omega
        · have hqd : decide (q < dn) = false := by simp; omega
          have hqd2 : decide ((q : Int) < (dn : Int)) = false := by simp; omega
          obtain ⟨⟨ea, en, ec⟩, w11, hrun, hrow, hk11, hen, hblk⟩ := rown_one (i : Int) (d := ⟨da, dn, dc⟩) DR.out (show dn ≤ 20000 by omega)
          dsimp only at hrun hk11 hen hblk
          subst hen
          have odl : ∀ b, blk da = some b → b < wr.heap.size := Sub.lt D.out.dr
          have P11 := hid ((D.out.b.keep K10.out (fun e => DBx.out.b3.2.1 e)).keep hk11 (fun e => (D.out.o.1 pb e).1 rfl))
          have Y11 := hid (show Seg w11 ga v from Y10.out.keep hk11 (fun b hb e => by have h1 := HNW.out b hb; have h2 := odl b e; omega))
          have X11 := hid (X10.out.keep hk11 (fun e => (D.out.o.1 rb e).2.2 rfl))
          have T11 := hid (TX.out.keep hk11 (fun e => (D.out.o.1 tb e).2.1 rfl))
          have Q11 := hid (show Q w w11 from hk11.below QX.out QX.out.size (fun b e => D.out.o.2 b e))
          have Z11 := hid (show SegOff rb w11 a zs from ⟨(DBx.out.l.q Q11.out), Z10.out.2⟩)
          have B11 := hid (show Bys pb tb rb w11 m s from fun j hj => by
            obtain ⟨z1, z2, z3⟩ := D.out.y.keep K10.out (fun b e => .inr (.inr e)) j hj
            exact ⟨z1.keep hk11 (fun b hb e => (D.out.e j b hj hb).1 e), z2, z3⟩)
          have W11 := hid hrow
          have HBK := hid (show (off3 pb tb rb ⟨ea, dn + 1, ec⟩ ∧ ∀ b, blk ea = some b → w.heap.size ≤ b) ∧ ∀ b, blk ea = some b → blk da = some b ∨ w10.heap.size ≤ b from by
            have g1 := lt_of_block P11.out
            have l1 : pb < w10.heap.size := Nat.lt_of_lt_of_le (lt_of_block D.out.b) K10.out.size
            have l2 : tb < w10.heap.size := Nat.lt_of_lt_of_le (lt_of_block D.out.t) K10.out.size
            have l3 : rb < w10.heap.size := Nat.lt_of_lt_of_le D.out.r.lt K10.out.size
            have l4 : w.heap.size ≤ w10.heap.size := QX.out.size
            rcases hblk with hb | hb
            · exact ⟨⟨fun b e => D.out.o.1 b (hb ▸ e), fun b e => D.out.o.2 b (hb ▸ e)⟩, fun b e => .inl (hb ▸ e)⟩
            · exact ⟨⟨fun b e => by have := hb b e; exact ⟨by omega, by omega, by omega⟩, fun b e => by have := hb b e; omega⟩, fun b e => .inr (hb b e)⟩)
          have HT38 := hid (rtake_any pb m s i ⟨ga, my, gc⟩ v w11 P11.out HM.out (show my ≤ 140737488355328 by omega) HVB.out Y11.out)
          have hsz11 := hk11.size
          clear hrow hk11 hblk DR Y10 X10 Z10
          cases ht : tkn m i v with
          | none =>
            have HRES := hid (decM_no (srv := srv) (k := k) (seen := seen) (m := m) (show ¬ (zs.length : Int) ≤ p from by rw [HL.out]; omega) (by rw [HPO.out]) (by rw [HPO.out]; exact HNI.out) (by rw [HPO.out]; show takesM m (i : Int).toNat v srv = none; rw [Int.toNat_natCast]; unfold takesM; rw [ht]; rfl))
            have HTN := hid ht
            clear ht
            go_wp2_with (first
              | (at_builtin; refine Lib.wpList_append_run _ rfl _ _ _ _ rfl _ _ rfl rfl _ _ hrun ?_)
              | (go_at_call 38; refine HT38.out.mono ?_; rintro e w12 ⟨k12, ⟨_, m2, hx, _⟩ | ⟨rfl, _⟩⟩; (exact absurd (HTN.out.symm.trans hx) (by simp)); have TX2 := hid (T11.out.keep k12 (fun e => DBx.out.b3.1 (Eq.symm e))); have QX2 := hid (show Q w w12 from k12.below Q11.out Q11.out.size (fun i e => by subst e; exact DBx.out.a1)); clear k12)
              | (refine wpList_store_row rfl 36 _ _ rfl tb (rc zeM (fun _ => nilS)) rfl rfl 36 _ TX2.out info36 rfl (rc_one _ _) ?_; refine Hid.out ?_))
            refine hid ?_
            generalize hw14 : World.setRow _ _ _ = w14
            have k14 : Keep (fun i => i = tb) w12 w14 := by rw [← hw14]; exact (Keep.refl _ w12).setRow _ _ (.inl rfl)
            have b14 : w14.heap[tb]? = some (.cells (rc zeM (fun _ => nilS)) 36 (0, 0)) := by rw [← hw14]; exact setRow_heap _ _ _ _ 36 _ TX2.out
            clear hw14
            have q14 : Q w w14 := k14.below QX2.out QX2.out.size (fun i e => by subst e; exact DBx.out.a2)
            go_wp2
            refine ret_rdc rfl tb (rc zeM (fun _ => nilS)) rfl rfl p 91 rfl rfl b14 ⟨fun _ => nilS, ?_, q14, ?_⟩
            · rw [HA.out, ← HDEC.out, HRES.out]
            · rw [HA.out, ← HDEC.out, HRES.out]; exact by_zero w14
          | some m1 =>
            have HTS := hid ht
            have HL1 := hid (show Len m1 (updS s i ⟨ga, my, gc⟩) from fun j hj => by
              rw [tkn_byt ht j hj]
              by_cases e : j = i
              · subst e
                have e1 : updS s j ⟨ga, my, gc⟩ j = ⟨ga, my, gc⟩ := by unfold updS; rw [if_pos ⟨hj, rfl⟩]
                rw [e1, if_pos rfl]; exact HM.out
              · have e1 : updS s i ⟨ga, my, gc⟩ j = s j := by unfold updS; rw [if_neg (fun x => e x.2)]
                rw [e1, if_neg e]; exact (D.out.y j hj).2.1)
            have HC39 := hid (fun (W : World) => rrid_any m1 (updS s i ⟨ga, my, gc⟩) i srv W HL1.out)
            have HTM := hid (show takesM m i v srv = if rgt m1 i srv then some m1 else none from by unfold takesM; rw [ht]; rfl)
            clear ht
            generalize hrv : rgt m1 i srv = rv at *
            clear hrv
            cases rv with
            | false =>
              have HRES := hid (decM_no (srv := srv) (k := k) (seen := seen) (m := m) (show ¬ (zs.length : Int) ≤ p from by rw [HL.out]; omega) (by rw [HPO.out]) (by rw [HPO.out]; exact HNI.out) (by rw [HPO.out]; exact HTM.out))
              go_wp2_with (first
                | (at_builtin; refine Lib.wpList_append_run _ rfl _ _ _ _ rfl _ _ rfl rfl _ _ hrun ?_)
                | (go_at_call 38; refine HT38.out.mono ?_; rintro e w12 ⟨k12, ⟨rfl, m2, hx, p12⟩ | ⟨_, hx⟩⟩; rotate_left; (exact absurd (HTS.out.symm.trans hx) (by simp)); obtain rfl : m2 = m1 := by { have := hx.symm.trans HTS.out; simpa using this }; have P12 := hid p12; have T12 := hid (T11.out.keep k12 (fun e => DBx.out.b3.1 (Eq.symm e))); have Q12 := hid (show Q w w12 from k12.below Q11.out Q11.out.size (fun i e => by subst e; exact DBx.out.a1)); clear k12 p12 hx)
                | (refine wpList_load_g (by kernel_rfl) _ rfl pb rfl m2 (updS s i ⟨ga, my, gc⟩) P12.out ?_)
                | (go_at_call 39; refine (HC39.out _).mono ?_; rintro e w13 ⟨rfl, q13⟩; have TX2 := hid (T12.out.q q13); have QX2 := hid (Q12.out.trans q13); clear q13)
                | (refine wpList_store_row rfl 36 _ _ rfl tb (rc zeM (fun _ => nilS)) rfl rfl 36 _ TX2.out info36 rfl (rc_one _ _) ?_; refine Hid.out ?_))
              refine hid ?_
              generalize hw14 : World.setRow _ _ _ = w14
              have k14 : Keep (fun i => i = tb) w13 w14 := by rw [← hw14]; exact (Keep.refl _ w13).setRow _ _ (.inl rfl)
              have b14 : w14.heap[tb]? = some (.cells (rc zeM (fun _ => nilS)) 36 (0, 0)) := by rw [← hw14]; exact setRow_heap _ _ _ _ 36 _ TX2.out
              clear hw14
              have q14 : Q w w14 := k14.below QX2.out QX2.out.size (fun i e => by subst e; exact DBx.out.a2)
              go_wp2
              refine ret_rdc rfl tb (rc zeM (fun _ => nilS)) rfl rfl p 91 rfl rfl b14 ⟨fun _ => nilS, ?_, q14, ?_⟩
              · rw [HA.out, ← HDEC.out, HRES.out]
              · rw [HA.out, ← HDEC.out, HRES.out]; exact by_zero w14
            | true =>
              have HRES := hid (decM_on (srv := srv) (k := k) (seen := seen) (m := m) (show ¬ (zs.length : Int) ≤ p from by rw [HL.out]; omega) (by rw [HPO.out]) (by rw [HPO.out]; exact HNI.out) (by rw [HPO.out]; exact HTM.out))
              rw [HPO.out] at HRES
              go_wp2_with (first
                | (at_builtin; refine Lib.wpList_append_run _ rfl _ _ _ _ rfl _ _ rfl rfl _ _ hrun ?_)
                | (go_at_call 38; refine HT38.out.mono ?_; rintro e w12 ⟨k12, ⟨rfl, m2, hx, p12⟩ | ⟨_, hx⟩⟩; rotate_left; (exact absurd (HTS.out.symm.trans hx) (by simp)); obtain rfl : m2 = m1 := by { have := hx.symm.trans HTS.out; simpa using this }; have P12 := hid p12; have K12 := hid k12; have Q12 := hid (show Q w w12 from k12.below Q11.out Q11.out.size (fun i e => by subst e; exact DBx.out.a1)); clear k12 p12 hx)
                | (refine wpList_load_g (by kernel_rfl) _ rfl pb rfl m2 (updS s i ⟨ga, my, gc⟩) P12.out ?_)
                | (go_at_call 39; refine (HC39.out _).mono ?_; rintro e w13 ⟨rfl, q13⟩; have Q13 := hid q13; clear q13))
              go_roundw
              case rel =>
                have kk : Keep (fun j => j = pb) w11 w13 := K12.out.trans (Keep.ofQ Q13.out)
                have hy : Bys pb tb rb w13 m2 (updS s i ⟨ga, my, gc⟩) := by
                  intro j hj
                  rw [tkn_byt HTS.out j hj]
                  by_cases e : j = i
                  · subst e
                    have e1 : updS s j ⟨ga, my, gc⟩ j = ⟨ga, my, gc⟩ := by unfold updS; rw [if_pos ⟨hj, rfl⟩]
                    rw [e1, if_pos rfl]
                    have h1 := lt_of_block D.out.b
                    have h2 := lt_of_block D.out.t
                    have h3 := D.out.r.lt
                    exact ⟨Y11.out.keep kk (fun b hb e => by have e2 : b = pb := e; have := HNW.out b hb; omega), HM.out, fun b hb => by have := HNW.out b hb; exact ⟨by omega, by omega, by omega⟩⟩
                  · have e1 : updS s i ⟨ga, my, gc⟩ j = s j := by unfold updS; rw [if_neg (fun x => e x.2)]
                    rw [e1, if_neg e]
                    exact B11.out.keep kk (fun b e => .inl e) j hj
                have hrow : RowN w13 ⟨ea, dn + 1, ec⟩ ((i :: seen).reverse.map (fun i : Nat => (i : Int))) := by
                  have e1 : (i :: seen).reverse.map (fun i : Nat => (i : Int)) = ids ++ [(i : Int)] := by rw [List.reverse_cons, List.map_append, HIDS.out]; rfl
                  rw [e1]
                  exact Sub.keep W11.out kk (fun b hb e => (HBK.out.1.1 b hb).1 e)
                have hs13 : w10.heap.size ≤ w13.heap.size := Nat.le_trans hsz11 kk.size
                have he : ∀ j b, (kd j = 2 ∨ kd j = 3) → blk (updS s i ⟨ga, my, gc⟩ j).a = some b → blk ea ≠ some b ∧ b < w13.heap.size := by
                  intro j b hj hb
                  by_cases ei : j = i
                  · subst ei
                    have e1 : updS s j ⟨ga, my, gc⟩ j = ⟨ga, my, gc⟩ := by unfold updS; rw [if_pos ⟨hj, rfl⟩]
                    rw [e1] at hb
                    have h1 := HNW.out b hb
                    have h2 := HNL.out b hb
                    refine ⟨fun e => ?_, by omega⟩
                    rcases HBK.out.2 b e with h | h
                    · have := odl b h; omega
                    · omega
                  · have e1 : updS s i ⟨ga, my, gc⟩ j = s j := by unfold updS; rw [if_neg (fun x => ei x.2)]
                    rw [e1] at hb
                    have h1 := D.out.e j b hj hb
                    have h3 := K10.out.size
                    refine ⟨fun e => ?_, by omega⟩
                    rcases HBK.out.2 b e with h | h
                    · exact h1.1 h
                    · omega
                have hon := HON.out
                exact ⟨k, c2, i :: seen, ea, dn + 1, ec, m2, _, rfl, ⟨Q12.out.trans Q13.out, P12.out.q Q13.out, T11.out.keep kk (fun e => DBx.out.b3.1 (Eq.symm e)), X11.out.keep kk (fun e => DBx.out.b3.2.1 (Eq.symm e)), ⟨DBx.out.l.q (Q12.out.trans Q13.out), Z11.out.2⟩, hrow, HBK.out.1, hy, he⟩, by omega, by omega, by omega, by simp; omega, by rw [← HDEC.out]; exact HRES.out.symm⟩
              case measure =>
                have hon := HON.out
                have kk : Keep (fun j => j = pb) w11 w13 := K12.out.trans (Keep.ofQ Q13.out)
                rw [plcR D.out.r, plcR (X11.out.keep kk (fun e => DBx.out.b3.2.1 (Eq.symm e)))]
                omega
    · have hpn : p = (n : Int) := by omega
      subst hpn
      have hdl : decide ((0 : Int) < (n : Int) - (n : Int)) = false := by simp
      have HRES := hid (decM_end (srv := srv) (k := k) (seen := seen) (m := m) (show (zs.length : Int) ≤ (n : Int) from by rw [HL.out]; omega))
      go_wp2_with (first
        | (go_at_call 35; refine (rleft0 rb _ n c (n : Int) _ (by omega) (by omega) (by omega) D.out.r).mono ?_; rintro e w6 ⟨rfl, q6⟩; have PX := hid (D.out.b.q q6); have TX := hid (D.out.t.q q6); have Q6 := hid q6; clear q6)
        | (refine wpList_load_row rfl 36 _ rfl pb rfl 36 (rc m s) (0, 0) _ PX.out Try.underlying36 rfl info36 ?_)
        | (refine wpList_store_row rfl 36 _ _ rfl tb (rc m s) rfl rfl 36 _ TX.out info36 rfl (rc_one m s) ?_; refine Hid.out ?_))
      refine hid ?_
      generalize hw14 : World.setRow _ _ _ = w14
      have k14 : Keep (fun i => i = tb) w6 w14 := by rw [← hw14]; exact (Keep.refl _ w6).setRow _ _ (.inl rfl)
      have b14 : w14.heap[tb]? = some (.cells (rc m s) 36 (0, 0)) := by rw [← hw14]; exact setRow_heap _ _ _ _ 36 _ TX.out
      clear hw14
      have k15 : Keep (fun i => i = tb) wr w14 := (Keep.ofQ Q6.out).trans k14
      have q14 : Q w w14 := k15.below D.out.q D.out.q.size (fun i e => by have := DBx.out; subst e; exact this.a2)
      go_wp2
      refine ret_rdc rfl tb (rc m s) rfl rfl 0 0 rfl rfl b14 ⟨s, ?_, q14, ?_⟩
      · rw [HA.out, ← HDEC.out, HRES.out]
      · rw [HA.out, ← HDEC.out, HRES.out]; exact (D.out.y.keep k15 (fun b e => .inr (.inl e))).by

theorem rdecode_any (a : Option Addr) (n c : Nat) (zs : List Int) (srv : Bool) (w : World) (hl : zs.length = n) (hn : n ≤ 140737488355328) (hnc : n ≤ c) (hz : ∀ y ∈ zs, 0 ≤ y ∧ y < 256) (hs : Seg w a zs) :
    Calls Try.prog 20 #[.slice a n c, .bool srv] w fun e w' => AnsR w zs srv e w' := by
  by_cases h : 16384 < n
  · exact rdecode_huge a n c zs srv w hl hn h
  · exact rdecode_in a n c zs srv w hl (by omega) hnc hz hs
end Go.Proofs.Ytidbimhcebfjfaa
