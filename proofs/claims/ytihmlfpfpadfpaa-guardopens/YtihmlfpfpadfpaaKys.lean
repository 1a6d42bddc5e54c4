/-
  What guard's Make and the document's do: contracts that the statements' walks use.
-/
import Derived.Test.YtihmlfpfpadfpaaNnc
namespace Go.Proofs.Ytihmlfpfpadfpaa
open Go.RowKit
set_option linter.unusedVariables false
set_option maxRecDepth 20000

/-- The keys that a secret gives, its next secret. -/
def kyL (ks : List Int) : List Int := exL ks (sb ⟨#[107, 101, 121]⟩) 16
def ivL (ks : List Int) : List Int := exL ks (sb ⟨#[105, 118]⟩) 12
def hpL (ks : List Int) : List Int := exL ks (sb ⟨#[104, 112]⟩) 16
def kuL (ks : List Int) : List Int := exL ks (sb ⟨#[107, 117]⟩) 16
def if16 (ks zs : List Int) : List Int := if ks.length = 16 then zs else []
def e16 (n : Nat) : Int := if n = 16 then 0 else 70
/-- Keys in memory. -/
structure KI (w : World) (k i h : Sv) (kz iz hz : List Int) : Prop where
  k : In w k kz
  i : In w i iz
  h : In w h hz
theorem KI.q {w w' : World} {k i h : Sv} {kz iz hz : List Int} (x : KI w k i h kz iz hz) (q : Q w w') : KI w' k i h kz iz hz := ⟨x.k.q q, x.i.q q, x.h.q q⟩
theorem kc_one (k i h : Sv) : (kcells k i h).all (·.oneCell') = true := by simp [Value.oneCell']
/-- A row of bytes lies in no block of another type. -/
theorem row_ne {w : World} {x : Sv} {zs : List Int} {g t : Nat} {vs : Array Value} (h : Row w x zs) (hg : w.heap[g]? = some (.cells vs t (0, 0))) (ht : t ≠ 5) : ∀ b, blk x.a = some b → ¬ b = g := by
  rintro b e rfl
  rcases h.2 with ⟨ha, _⟩ | ⟨g', off, cur, ha, hc, _⟩
  · rw [ha] at e; cases e
  · rw [ha] at e
    simp [blk] at e
    subst e
    rw [hg] at hc
    cases hc
    exact ht rfl
theorem row_keep {w w' : World} {x : Sv} {zs : List Int} {g t : Nat} {vs : Array Value} (h : Row w x zs) (hg : w.heap[g]? = some (.cells vs t (0, 0))) (ht : t ≠ 5) (k : Keep (fun i => i = g) w w') : Row w' x zs := h.keep k (row_ne h hg ht)
theorem in_nilS (w : World) : In w nilS [] := ⟨seg_nil _ _, rfl, by simp⟩
theorem row_in {w : World} {x : Sv} {zs : List Int} (h : Row w x zs) (hz : By zs) : In w x zs := ⟨h.seg, Row.len h, hz⟩
theorem rnext_c (k : Sv) (ks : List Int) (s : ByteArray) (n : Nat) (w : World) (hk : In w k ks) (bk : k.n ≤ 255) (bs : s.size ≤ 255) (hn : n ≤ 1024) :
    Calls Try.prog 35 #[.slice k.a k.n k.c, .string s, .int .i64 n] w fun e w' => ∃ x : Sv, e = .returned (.tuple #[.slice x.a x.n x.c, .int .i64 0]) ∧ Q w w' ∧ Row w' x (exL ks (sb s) n) := by
  have h0 : expE k.n s.size n = 0 := by unfold expE; rw [if_neg (by omega), if_neg (by omega)]
  refine (rexpand_any k ks s n w hk (by omega) (by omega)).mono ?_
  rintro e w' ⟨x, rfl, q, r⟩
  refine ⟨x, by rw [h0], q, ?_⟩
  have : expR ks (sb s) n = exL ks (sb s) n := by
    unfold expR
    rw [if_pos (by rw [sb_len, hk.l]; exact h0), Int.toNat_natCast]
  rw [← this]; exact r
set_option maxHeartbeats 4000000 in
theorem rnext_any (k : Sv) (ks : List Int) (w : World) (hk : In w k ks) :
    Calls Try.prog 15 #[.slice k.a k.n k.c] w fun e w' => ∃ x : Sv, e = .returned (.tuple #[.slice x.a x.n x.c, .int .i64 (e16 k.n)]) ∧ Q w w' ∧ Row w' x (if16 ks (kuL ks)) := by
  obtain ⟨ka, kn, kc⟩ := k
  have HK := hid hk
  have HL := hid hk.l
  clear hk
  dsimp only at *
  by_cases h : kn = 16
  · subst h
    rw [show e16 16 = 0 from rfl, show if16 ks (kuL ks) = kuL ks from by unfold if16; rw [if_pos HL.out]]
    have HE := hid (rnext_c ⟨ka, 16, kc⟩ ks ⟨#[107, 117]⟩ 16 w HK.out (by show 16 ≤ _; omega) (by decide) (by omega))
    go_enter Try.func15, Try.ntmps15
    go_wp2_with (go_at_call 35; refine HE.out.mono ?_; rintro e w' ⟨⟨xa, xn, xc⟩, rfl, q1, r1⟩)
    have Q1 := hid q1
    have R1 := hid r1
    clear q1 r1
    go_wp2
    go_ret2
    exact ⟨⟨xa, xn, xc⟩, rfl, Q1.out, R1.out⟩
  · rw [show e16 kn = 70 from by unfold e16; rw [if_neg h], show if16 ks (kuL ks) = [] from by unfold if16; rw [if_neg (by rw [HL.out]; exact h)]]
    have h3' : ((kn : Int) != 16) = true := by simp; omega
    go_enter Try.func15, Try.ntmps15
    go_wp2
    go_ret2
    exact ⟨nilS, rfl, Q.refl _, sub_nil _ _ _⟩

theorem ret_kt30 {fn : Func} {p q : Tmp} {a : Act} {w : World} {R : Ending → World → Prop} (hr : fn.results = #[.cell p 30, .tmp q]) (hd : a.defers = [])
    (g : Nat) (k i h : Sv) (e : Int) (hp : a.tmps.getD p undef = .pointer (some ⟨g, 0, none⟩)) (hq : a.tmps.getD q undef = .int .i64 e) (hb : KB w g 30 k i h) (hR : R (.returned (.tuple #[.agg (kcells k i h), .int .i64 e])) w) : bodyPost Try.prog fn R .ret a w := by
  refine ⟨hd, _, ?_, hR⟩
  have hlv := run_loadVar_row w g 30 30 (kcells k i h) (0, 0) _ hb Try.underlying30 rfl (by kernel_rfl)
  rw [results_cell_tmp hr, hp, hq]
  simp [asAddr, hlv]
theorem kinfo30 (k i h : Sv) : (Try.prog.info? 30).map (·.size) = some (kcells k i h).size := by
  show (Try.prog.info? 30).map (·.size) = some 3
  kernel_rfl
set_option maxHeartbeats 4000000 in
theorem make_any (s : Sv) (ks : List Int) (w : World) (hk : In w s ks) :
    Calls Try.prog 12 #[.slice s.a s.n s.c] w fun e w' => ∃ k i h : Sv, e = .returned (.tuple #[.agg (kcells k i h), .int .i64 (e16 s.n)]) ∧ Q w w' ∧ KI w' k i h (if16 ks (kyL ks)) (if16 ks (ivL ks)) (if16 ks (hpL ks)) := by
  obtain ⟨ka, kn, kc⟩ := s
  have HK := hid hk
  have HL := hid hk.l
  clear hk
  dsimp only at *
  by_cases h : kn = 16
  · subst h
    rw [show e16 16 = 0 from rfl, show ∀ zs, if16 ks zs = zs from fun zs => by unfold if16; rw [if_pos HL.out]]
    rw [show ∀ zs, if16 ks zs = zs from fun zs => by unfold if16; rw [if_pos HL.out]]
    rw [show ∀ zs, if16 ks zs = zs from fun zs => by unfold if16; rw [if_pos HL.out]]
    have CK := hid (fun u (hu : Q w u) => expand_ok ⟨ka, 16, kc⟩ ks ⟨#[107, 101, 121]⟩ 16 u (HK.out.q hu) (by show 16 ≤ _; omega) (by decide) (by omega))
    have CI := hid (fun u (hu : Q w u) => expand_ok ⟨ka, 16, kc⟩ ks ⟨#[105, 118]⟩ 12 u (HK.out.q hu) (by show 16 ≤ _; omega) (by decide) (by omega))
    have CH := hid (fun u (hu : Q w u) => expand_ok ⟨ka, 16, kc⟩ ks ⟨#[104, 112]⟩ 16 u (HK.out.q hu) (by show 16 ≤ _; omega) (by decide) (by omega))
    go_enter Try.func12, Try.ntmps12
    go_wp2_with fail
    generalize hw1 : World.alloc w _ = w1
    have Q1 := hid (show Q w w1 from by rw [← hw1]; exact (Q.refl w).alloc _)
    have B1 := hid (show w1.heap[w.heap.size]? = some (.cells (kcells nilS nilS nilS) 30 (0, 0)) from by rw [← hw1]; exact heap_alloc_new w _)
    clear hw1
    have HG := hid (Nat.le_refl w.heap.size)
    generalize hgx : w.heap.size = g at *
    have HGX := hid hgx
    clear hgx
    refine (CK.out w1 Q1.out).mono ?_
    rintro e w2 ⟨⟨xa, xn, xc⟩, rfl, q2, r2⟩
    have Q2 := hid q2
    have R2 := hid r2
    clear q2 r2
    go_wp2_with fail
    refine (CI.out w2 (Q1.out.trans Q2.out)).mono ?_
    rintro e w3 ⟨⟨ya, yn, yc⟩, rfl, q3, r3⟩
    have Q3 := hid q3
    have R3 := hid r3
    clear q3 r3
    go_wp2_with fail
    refine (CH.out w3 ((Q1.out.trans Q2.out).trans Q3.out)).mono ?_
    rintro e w4 ⟨⟨za, zn, zc⟩, rfl, q4, r4⟩
    have Q4 := hid q4
    have R4 := hid r4
    clear q4 r4
    have Q14 := hid ((Q2.out.trans Q3.out).trans Q4.out)
    have B4 := hid (show w4.heap[g]? = some (.cells (kcells nilS nilS nilS) 30 (0, 0)) from (Below.block Q14.out _ (lt_of_block B1.out)).trans B1.out)
    go_wp2_with (refine wpList_store_row rfl 30 _ _ rfl g (kcells ⟨xa, xn, xc⟩ ⟨ya, yn, yc⟩ ⟨za, zn, zc⟩) rfl rfl 30 _ B4.out (kinfo30 _ _ _) rfl (kc_one _ _ _) ?_; refine Hid.out ?_)
    refine hid ?_
    go_wp2
    refine ret_kt30 rfl rfl g ⟨xa, xn, xc⟩ ⟨ya, yn, yc⟩ ⟨za, zn, zc⟩ 0 rfl rfl (setRow_heap w4 _ _ _ 30 _ B4.out) ⟨⟨xa, xn, xc⟩, ⟨ya, yn, yc⟩, ⟨za, zn, zc⟩, rfl, ?_, ?_⟩
    · have k5 : Keep (fun i => i = g) w4 (w4.setRow g (kcells ⟨xa, xn, xc⟩ ⟨ya, yn, yc⟩ ⟨za, zn, zc⟩)) := (Keep.refl _ w4).setRow _ _ (.inl rfl)
      exact k5.below (Q1.out.trans Q14.out) (Q1.out.trans Q14.out).size (fun i e => by have := HGX.out; omega)
    · have k5 : Keep (fun i => i = g) w4 (w4.setRow g (kcells ⟨xa, xn, xc⟩ ⟨ya, yn, yc⟩ ⟨za, zn, zc⟩)) := (Keep.refl _ w4).setRow _ _ (.inl rfl)
      exact ⟨row_in (row_keep (R2.out.q (Q3.out.trans Q4.out)) B4.out (by decide) k5) (exL_lt _ _ _), row_in (row_keep (R3.out.q Q4.out) B4.out (by decide) k5) (exL_lt _ _ _), row_in (row_keep R4.out B4.out (by decide) k5) (exL_lt _ _ _)⟩
  · rw [show e16 kn = 70 from by unfold e16; rw [if_neg h], show ∀ zs, if16 ks zs = [] from fun zs => by unfold if16; rw [if_neg (by rw [HL.out]; exact h)]]
    rw [show ∀ zs, if16 ks zs = [] from fun zs => by unfold if16; rw [if_neg (by rw [HL.out]; exact h)]]
    rw [show ∀ zs, if16 ks zs = [] from fun zs => by unfold if16; rw [if_neg (by rw [HL.out]; exact h)]]
    have h3' : ((kn : Int) != 16) = true := by simp; omega
    go_enter Try.func12, Try.ntmps12
    go_wp2_with (refine wpList_store_row rfl 30 _ _ rfl w.heap.size (kcells nilS nilS nilS) rfl rfl 30 _ (heap_alloc_new w _) (kinfo30 _ _ _) rfl (kc_one _ _ _) ?_; refine Hid.out ?_)
    refine hid ?_
    go_wp2
    refine ret_kt30 rfl rfl w.heap.size nilS nilS nilS 70 rfl rfl (setRow_heap _ _ _ _ 30 _ (heap_alloc_new w _)) ⟨nilS, nilS, nilS, rfl, ?_, in_nilS _, in_nilS _, in_nilS _⟩
    exact (((Keep.refl (fun i => i = w.heap.size) w).alloc _).setRow _ _ (.inl rfl)).below (Q.refl _) (Nat.le_refl _) (fun i e => by omega)

theorem ret_kt33 {fn : Func} {p q : Tmp} {a : Act} {w : World} {R : Ending → World → Prop} (hr : fn.results = #[.cell p 33, .tmp q]) (hd : a.defers = [])
    (g : Nat) (k i h : Sv) (e : Int) (hp : a.tmps.getD p undef = .pointer (some ⟨g, 0, none⟩)) (hq : a.tmps.getD q undef = .int .i64 e) (hb : KB w g 33 k i h) (hR : R (.returned (.tuple #[.agg (kcells k i h), .int .i64 e])) w) : bodyPost Try.prog fn R .ret a w := by
  refine ⟨hd, _, ?_, hR⟩
  have hlv := run_loadVar_row w g 33 33 (kcells k i h) (0, 0) _ hb Try.underlying33 rfl (by kernel_rfl)
  rw [results_cell_tmp hr, hp, hq]
  simp [asAddr, hlv]
theorem kinfo33 (k i h : Sv) : (Try.prog.info? 33).map (·.size) = some (kcells k i h).size := by
  show (Try.prog.info? 33).map (·.size) = some 3
  kernel_rfl
set_option maxHeartbeats 4000000 in
theorem rmake_any (s : Sv) (ks : List Int) (w : World) (hk : In w s ks) :
    Calls Try.prog 13 #[.slice s.a s.n s.c] w fun e w' => ∃ k i h : Sv, e = .returned (.tuple #[.agg (kcells k i h), .int .i64 (e16 s.n)]) ∧ Q w w' ∧ KI w' k i h (if16 ks (kyL ks)) (if16 ks (ivL ks)) (if16 ks (hpL ks)) := by
  obtain ⟨ka, kn, kc⟩ := s
  have HK := hid hk
  have HL := hid hk.l
  clear hk
  dsimp only at *
  by_cases h : kn = 16
  · subst h
    rw [show e16 16 = 0 from rfl, show ∀ zs, if16 ks zs = zs from fun zs => by unfold if16; rw [if_pos HL.out]]
    rw [show ∀ zs, if16 ks zs = zs from fun zs => by unfold if16; rw [if_pos HL.out]]
    rw [show ∀ zs, if16 ks zs = zs from fun zs => by unfold if16; rw [if_pos HL.out]]
    have CK := hid (fun u (hu : Q w u) => rnext_c ⟨ka, 16, kc⟩ ks ⟨#[107, 101, 121]⟩ 16 u (HK.out.q hu) (by show 16 ≤ _; omega) (by decide) (by omega))
    have CI := hid (fun u (hu : Q w u) => rnext_c ⟨ka, 16, kc⟩ ks ⟨#[105, 118]⟩ 12 u (HK.out.q hu) (by show 16 ≤ _; omega) (by decide) (by omega))
    have CH := hid (fun u (hu : Q w u) => rnext_c ⟨ka, 16, kc⟩ ks ⟨#[104, 112]⟩ 16 u (HK.out.q hu) (by show 16 ≤ _; omega) (by decide) (by omega))
    go_enter Try.func13, Try.ntmps13
    go_wp2_with fail
    generalize hw1 : World.alloc w _ = w1
    have Q1 := hid (show Q w w1 from by rw [← hw1]; exact (Q.refl w).alloc _)
    have B1 := hid (show w1.heap[w.heap.size]? = some (.cells (kcells nilS nilS nilS) 33 (0, 0)) from by rw [← hw1]; exact heap_alloc_new w _)
    clear hw1
    have HG := hid (Nat.le_refl w.heap.size)
    generalize hgx : w.heap.size = g at *
    have HGX := hid hgx
    clear hgx
    refine (CK.out w1 Q1.out).mono ?_
    rintro e w2 ⟨⟨xa, xn, xc⟩, rfl, q2, r2⟩
    have Q2 := hid q2
    have R2 := hid r2
    clear q2 r2
    go_wp2_with fail
    refine (CI.out w2 (Q1.out.trans Q2.out)).mono ?_
    rintro e w3 ⟨⟨ya, yn, yc⟩, rfl, q3, r3⟩
    have Q3 := hid q3
    have R3 := hid r3
    clear q3 r3
    go_wp2_with fail
    refine (CH.out w3 ((Q1.out.trans Q2.out).trans Q3.out)).mono ?_
    rintro e w4 ⟨⟨za, zn, zc⟩, rfl, q4, r4⟩
    have Q4 := hid q4
    have R4 := hid r4
    clear q4 r4
    have Q14 := hid ((Q2.out.trans Q3.out).trans Q4.out)
    have B4 := hid (show w4.heap[g]? = some (.cells (kcells nilS nilS nilS) 33 (0, 0)) from (Below.block Q14.out _ (lt_of_block B1.out)).trans B1.out)
    go_wp2_with (refine wpList_store_row rfl 33 _ _ rfl g (kcells ⟨xa, xn, xc⟩ ⟨ya, yn, yc⟩ ⟨za, zn, zc⟩) rfl rfl 33 _ B4.out (kinfo33 _ _ _) rfl (kc_one _ _ _) ?_; refine Hid.out ?_)
    refine hid ?_
    go_wp2
    refine ret_kt33 rfl rfl g ⟨xa, xn, xc⟩ ⟨ya, yn, yc⟩ ⟨za, zn, zc⟩ 0 rfl rfl (setRow_heap w4 _ _ _ 33 _ B4.out) ⟨⟨xa, xn, xc⟩, ⟨ya, yn, yc⟩, ⟨za, zn, zc⟩, rfl, ?_, ?_⟩
    · have k5 : Keep (fun i => i = g) w4 (w4.setRow g (kcells ⟨xa, xn, xc⟩ ⟨ya, yn, yc⟩ ⟨za, zn, zc⟩)) := (Keep.refl _ w4).setRow _ _ (.inl rfl)
      exact k5.below (Q1.out.trans Q14.out) (Q1.out.trans Q14.out).size (fun i e => by have := HGX.out; omega)
    · have k5 : Keep (fun i => i = g) w4 (w4.setRow g (kcells ⟨xa, xn, xc⟩ ⟨ya, yn, yc⟩ ⟨za, zn, zc⟩)) := (Keep.refl _ w4).setRow _ _ (.inl rfl)
      exact ⟨row_in (row_keep (R2.out.q (Q3.out.trans Q4.out)) B4.out (by decide) k5) (exL_lt _ _ _), row_in (row_keep (R3.out.q Q4.out) B4.out (by decide) k5) (exL_lt _ _ _), row_in (row_keep R4.out B4.out (by decide) k5) (exL_lt _ _ _)⟩
  · rw [show e16 kn = 70 from by unfold e16; rw [if_neg h], show ∀ zs, if16 ks zs = [] from fun zs => by unfold if16; rw [if_neg (by rw [HL.out]; exact h)]]
    rw [show ∀ zs, if16 ks zs = [] from fun zs => by unfold if16; rw [if_neg (by rw [HL.out]; exact h)]]
    rw [show ∀ zs, if16 ks zs = [] from fun zs => by unfold if16; rw [if_neg (by rw [HL.out]; exact h)]]
    have h3' : ((kn : Int) != 16) = true := by simp; omega
    go_enter Try.func13, Try.ntmps13
    go_wp2_with (refine wpList_store_row rfl 33 _ _ rfl w.heap.size (kcells nilS nilS nilS) rfl rfl 33 _ (heap_alloc_new w _) (kinfo33 _ _ _) rfl (kc_one _ _ _) ?_; refine Hid.out ?_)
    refine hid ?_
    go_wp2
    refine ret_kt33 rfl rfl w.heap.size nilS nilS nilS 70 rfl rfl (setRow_heap _ _ _ _ 33 _ (heap_alloc_new w _)) ⟨nilS, nilS, nilS, rfl, ?_, in_nilS _, in_nilS _, in_nilS _⟩
    exact (((Keep.refl (fun i => i = w.heap.size) w).alloc _).setRow _ _ (.inl rfl)).below (Q.refl _) (Nat.le_refl _) (fun i e => by omega)

end Go.Proofs.Ytihmlfpfpadfpaa
