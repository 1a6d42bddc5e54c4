/-
  The law's walk.
-/
import Derived.Test.YtehejibllkmflaaRo
import Derived.Test.YtehejibllkmflaaRTb
namespace Go.Proofs.Ytehejibllkmflaa.qpackCuts
open Go.RowKit
set_option linter.unusedVariables false
set_option maxRecDepth 20000

set_option maxHeartbeats 16000000 in
theorem walk_bad (a b c : Int) (xa : Option Addr) (xn xc : Nat) (ca : Option Addr) (cn cc : Nat) (w : World) (h : ¬ ndk a b c) :
    Calls Try.prog 4 #[.agg #[.int .i64 a, .int .i64 b, .int .i64 c], .slice xa xn xc, .slice ca cn cc] w fun r w' => r = .returned (.bool true) ∧ Below w.heap.size w w' := by
  have HAW := hid awake_any
  have HN := hid (fun W => newD_bad a b c W h)
  clear h
  go_enter Try.func4, Try.ntmps4
  go_wp2_with (go_at_call 8; refine (HN.out _).mono ?_; rintro e w1 ⟨rfl, q1⟩; have Q1 := hid q1; clear q1; refine Hid.out ?_)
  refine hid ?_
  have hb1 := blk_q Q1.out (heap_alloc_new w _)
  have d0 : w1.cell? ⟨w.heap.size, 0, none⟩ = some (.int .i64 a) := by rw [cell_of_row w1 _ 0 _ 29 (0, 0) hb1]; rfl
  have d1 : w1.cell? ⟨w.heap.size, 1, none⟩ = some (.int .i64 b) := by rw [cell_of_row w1 _ 1 _ 29 (0, 0) hb1]; rfl
  have d2 : w1.cell? ⟨w.heap.size, 2, none⟩ = some (.int .i64 c) := by rw [cell_of_row w1 _ 2 _ 29 (0, 0) hb1]; rfl
  have Q2 := hid (((Q.refl w).alloc _).trans Q1.out)
  clear hb1 Q1
  go_wp2_with (go_at_call 8; refine (HN.out _).mono ?_; rintro e w2 ⟨rfl, q2⟩; have Q3 := hid (Q2.out.trans q2); clear q2; refine Hid.out ?_)
  refine hid ?_
  clear d0 d1 d2 Q2
  go_wp2_with (go_at_call 7; refine (HAW.out _).mono ?_; rintro e w4 ⟨rfl, q4⟩)
  go_ret
  exact ⟨rfl, Q3.out.trans q4⟩
def SegN (w : World) (a : Option Addr) (zs : List Int) : Prop :=
  zs ≠ [] → ∃ b off, a = some ⟨b, off, none⟩ ∧ ∀ i, i < zs.length → w.cell? ⟨b, off + i, none⟩ = some (.int .i64 (zs.getD i 0))
theorem SegN.q {w w' : World} {a : Option Addr} {zs : List Int} (h : SegN w a zs) (hq : Q w w') : SegN w' a zs := by
  intro hne
  obtain ⟨b, off, ha, hc⟩ := h hne
  refine ⟨b, off, ha, fun i hi => ?_⟩
  rw [hq.cell (lt_of_cell (hc i hi))]
  exact hc i hi
theorem slice_toB (a : Option Addr) (n c k : Nat) (hk : k ≤ c) (hk' : k < 9223372036854775808) (u : World) : (Instr.slice 30 (.slice a n c) none (some (.int .i64 (k : Int))) none).run Try.prog u = .ok (.slice a k c) u := by
  have h := run_slice_h (P := Try.prog) u 30 a n c Try.underlying30 .i64 (k : Int) (by omega) (by omega)
  rw [h]
  rw [show (sizeOf (Try.prog.elem 30)).run Try.prog u = .ok 1 u from by kernel_rfl]
  simp [Result.andThen, sliced]
  intro _
  cases a <;> simp [Addr.add]
theorem size_push1 (w : World) (o : Obj) : (w.alloc o).heap.size = w.heap.size + 1 := by unfold World.alloc; exact Array.size_push _
theorem _root_.Go.Proofs.Ytehejibllkmflaa.DF.q {w w' : World} {db : Nat} {D : Dk} {es : List Fd} {zr zo : List Int} (h : DF w db D es zr zo) (k : Q w w') : DF w' db D es zr zo :=
  ⟨h.i.q k, Sub.q h.r k, Sub.q h.o k, h.rd, h.od, h.zr, h.s, h.sb, h.c, h.m, h.f, h.on⟩
theorem df0 {w : World} {db : Nat} {a b c : Int} (hb : w.heap[db]? = some (.cells (dC (dk0 a b c)) 55 (0, 0))) (h : ndk a b c) : DF w db (dk0 a b c) [] [] [] :=
  ⟨⟨hb, ⟨rfl, .inl ⟨rfl, rfl, rfl⟩⟩, fun b e => (by cases e)⟩, nil_row _, nil_row _, fun b e => (by cases e), fun b e => (by cases e), fun y hy => absurd hy List.not_mem_nil, rfl, (by show (0 : Int) ≤ 100000000; omega), (by show (0 : Int) ≤ 0 ∧ (0 : Int) ≤ 100000000; omega), (by have := h.1; show a ≤ 100000000; omega), rfl, Nat.le_refl _⟩
set_option maxHeartbeats 16000000 in
theorem walk_ok (a b c : Int) (xa : Option Addr) (xn xc : Nat) (zs : List Int) (ca : Option Addr) (cn cc : Nat) (ks : List Int) (w : World) (h : ndk a b c) (hs : Seg w xa zs) (hl : zs.length = xn) (hz : ∀ y ∈ zs, 0 ≤ y ∧ y < 256) (hn : xn ≤ 140737488355328) (hkl : ks.length = cn) (hks : SegN w ca ks) (hcn : cn ≤ 140737488355328) :
    Calls Try.prog 4 #[.agg #[.int .i64 a, .int .i64 b, .int .i64 c], .slice xa xn xc, .slice ca cn cc] w fun r w' => r = .returned (.bool true) ∧ Below w.heap.size w w' := by
  have HAW := hid awake_any
  have HN := hid (fun W => newD_ok a b c W h)
  have HS := hid hs
  clear hs
  go_enter Try.func4, Try.ntmps4
  go_wp2_with (go_at_call 8; refine (HN.out _).mono ?_; rintro e w1 ⟨rfl, q1, b1⟩; have Q1 := hid q1; have B1 : Hid (w1.heap[w.heap.size + 1]? = some (.cells (dC (dk0 a b c)) 55 (0, 0))) := hid (by rw [← size_push1 w _]; exact b1); have HAB := hid (lt_of_block B1.out); clear q1 b1; refine Hid.out ?_)
  refine hid ?_
  have hb1 := blk_q Q1.out (heap_alloc_new w _)
  have d0 : w1.cell? ⟨w.heap.size, 0, none⟩ = some (.int .i64 a) := by rw [cell_of_row w1 _ 0 _ 29 (0, 0) hb1]; rfl
  have d1 : w1.cell? ⟨w.heap.size, 1, none⟩ = some (.int .i64 b) := by rw [cell_of_row w1 _ 1 _ 29 (0, 0) hb1]; rfl
  have d2 : w1.cell? ⟨w.heap.size, 2, none⟩ = some (.int .i64 c) := by rw [cell_of_row w1 _ 2 _ 29 (0, 0) hb1]; rfl
  have Q2 := hid (((Q.refl w).alloc _).trans Q1.out)
  clear hb1 Q1
  go_wp2_with (go_at_call 8; refine (HN.out _).mono ?_; rintro e w2 ⟨rfl, q2, b2⟩; have Q3 := hid (Q2.out.trans q2); have B2 := hid b2; have A2 := hid (blk_q q2 B1.out); clear q2 b2 B1; refine Hid.out ?_)
  refine hid ?_
  have hw1 := Q2.out.size
  have DA := hid (df0 A2.out h)
  have BB := hid B2.out
  have hda2 : w.heap.size ≤ w.heap.size + 1 := Nat.le_succ _
  have hlb := lt_of_block B2.out
  have hla := lt_of_block A2.out
  have hab : w.heap.size + 1 < w1.heap.size := HAB.out
  clear d0 d1 d2 Q2 A2 B2
  generalize w1.heap.size = db at *
  generalize hda : w.heap.size + 1 = da at *
  clear hda
  have HCP := hid (rcopy_any xa xn xc zs w2 hl hn (HS.out.q Q3.out))
  go_wp2_with (go_at_call 10; refine HCP.out.mono ?_; rintro e w3 ⟨g1, rfl, q3, o3, n3⟩; have Q4 := hid (Q3.out.trans q3); have O3 := hid o3; have Q3' := hid q3; clear q3 o3; refine Hid.out ?_)
  refine hid ?_
  have hs3 := Q3'.out.size
  have HFA := hid (feed_any da (dk0 a b c) [] [] [] ⟨some ⟨g1, 0, none⟩, xn, xn⟩ zs w3 (DA.out.q Q3'.out) (Own.seg O3.out) hl hz (by show 0 + 0 + ([] ++ zs).length ≤ _; rw [List.nil_append]; omega))
  dsimp only at HFA
  go_wp2_with (go_at_call 9; refine HFA.out.mono ?_; rintro e w4 ⟨rfl, f4⟩; have F4 := hid f4.k; clear f4; refine Hid.out ?_)
  refine hid ?_
  have QW4 := hid (((Keep.ofQ (F := Own4 da (dk0 a b c)) Q4.out).trans F4.out).toQ (fun i hi h => by
    rcases h with h | h | h
    · omega
    · cases h
    · cases h))
  have hs4 := F4.out.size
  have B4 := hid (show w4.heap[db]? = some (.cells (dC (dk0 a b c)) 55 (0, 0)) from (F4.out.block db (by omega) (fun h => by
    rcases h with h | h | h
    · omega
    · cases h
    · cases h)).trans (blk_q Q3'.out BB.out))
  have HCP2 := hid (rcopy_any xa xn xc zs w4 hl hn (HS.out.q QW4.out))
  clear HCP HFA
  go_wp2_with (go_at_call 10; refine HCP2.out.mono ?_; rintro e w5 ⟨g2, rfl, q5, o5, n5⟩; have Q5 := hid q5; have O5 := hid o5; clear q5 o5; refine Hid.out ?_)
  refine hid ?_
  have QW5 := hid (QW4.out.trans Q5.out)
  have DB := hid (df0 (blk_q Q5.out B4.out) h)
  have hs5 := Q5.out.size
  generalize hX : fdX (fdR (dk0 a b c) [] [] zs) = X at *
  have HK := hid hks
  have hgz : xn ≤ 140737488355328 := hn
  have HOW : Hid (∀ b', Own4 db (dk0 a b c) b' → w.heap.size ≤ b' ∧ b' ≠ g2) := hid (fun b' e => by
    rcases e with e | e | e
    · exact ⟨by omega, by omega⟩
    · cases e
    · cases e)
  have LI0 := hid (show LI w db g2 X xn w5 (dk0 a b c) [] [] [] ⟨some ⟨g2, 0, none⟩, xn, xn⟩ zs 0 from
    ⟨DB.out, Own.seg O5.out, hl, Nat.le_refl _, rfl, QW5.out, HOW.out, (lt_of_block (own_block O5.out)), hX, rfl, hz, by show 0 + 0 + 0 + zs.length ≤ xn; omega, by omega⟩)
  clear hX QW4 B4 F4 DA BB O5 O3 Q3 Q4 Q5 HS DB hks
  go_wp2
  go_loopw [12, 13, 14] (fun y r i wr => ∃ (D : Dk) (es : List Fd) (zr zo : List Int) (x : Sv) (rs : List Int) (k : Nat), y = .int .i64 0 ∧ r = .slice x.a x.n x.c ∧ i = .int .i64 (k : Int) ∧ LI w db g2 X xn wr D es zr zo x rs k) (fun _ r _ _ => match r with | .slice _ n _ => n | _ => 0)
  case atStart => exact ⟨_, _, _, _, ⟨some ⟨g2, 0, none⟩, xn, xn⟩, zs, 0, rfl, rfl, rfl, LI0.out⟩
  case round =>
    obtain ⟨D, es, zr, zo, ⟨ra, rn, rc⟩, rs, k, rfl, rfl, rfl, li⟩ := hrel
    have L := hid li
    have hrl : rs.length = rn := li.l
    have hrc : rn ≤ rc := li.c
    have hkn := li.k
    have hnn := li.n
    clear li
    by_cases h0 : rn = 0
    · have hX0 : X = 0 := by
        have := List.length_eq_zero_iff.1 (hrl.trans h0)
        have h1 := L.out.e
        rw [this, L.out.e0] at h1
        exact h1.symm
      subst h0 hX0
      go_wp2_with (go_at_call 7; refine (HAW.out _).mono ?_; rintro e w8 ⟨rfl, q8⟩)
      go_ret
      exact ⟨rfl, L.out.q.trans q8⟩
    · have HF : Hid (∀ m, m ≤ rn → Calls Try.prog 9 #[.pointer (some ⟨db, 0, none⟩), .slice ra m rc] wr fun e w' => e = .returned (.int .i64 (fdX (fdR D es zr (rs.take m)))) ∧ FD wr db D (fdR D es zr (rs.take m)) (zr ++ rs.take m) w') := hid (fun m hm =>
        feed_any db D es zr zo ⟨ra, m, rc⟩ (rs.take m) wr L.out.d (seg_take L.out.s m) (by rw [List.length_take]; show min m rs.length = m; omega) (fun y hy => L.out.z y (List.mem_of_mem_take hy)) (by rw [List.length_append, List.length_take]; omega))
      by_cases hkc : k < cn
      · have hne : ks ≠ [] := fun e => by rw [e] at hkl; simp at hkl; omega
        obtain ⟨cb, off, hca, hcell⟩ := (HK.out.q L.out.q) hne
        have hck := hcell k (by omega)
        subst hca
        clear hcell
        generalize ks.getD k 0 = v at hck
        by_cases hv : 0 < v ∧ v < (rn : Int)
        · obtain ⟨hv0, hv1⟩ := hv
          obtain ⟨m, rfl⟩ : ∃ m : Nat, v = (m : Int) := ⟨v.toNat, by omega⟩
          have hto := slice_toB ra rn rc m (by omega) (by omega)
          have hfr := slice_fromB ra rn rc m (by omega)
          have HFm := hid (HF.out m (by omega))
          obtain ⟨Y, hY⟩ : ∃ Y, fdX (fdR D es zr (rs.take m)) = Y := ⟨_, rfl⟩
          rw [hY] at HFm
          go_wp2_with (go_at_call 9; refine HFm.out.mono ?_; rintro e w6 ⟨rfl, f6⟩; have F6 := hid f6; clear f6; refine Hid.out ?_)
          refine hid ?_
          by_cases hY0 : Y = 0
          · subst hY0
            obtain ⟨D', es', zr', zo', li'⟩ := li_step L.out m (by omega) (by show m ≤ rn; omega) F6.out hY
            have LL := hid li'
            clear li'
            go_wp2
            refine ⟨⟨D', es', zr', zo', ⟨if rc = m then ra else Option.map (fun x => x.add m) ra, rn - m, rc - m⟩, rs.drop m, k + 1, rfl, ?_, ?_, LL.out⟩, ?_⟩
            · first | rfl | (simp; done) | (dsimp only; rw [if_neg (by omega)])
            · rfl
            · simp only []; omega
          · have hYX : Y = X := by rw [← hY]; exact li_bad L.out m (by rw [hY]; exact hY0)
            subst hYX
            have Q6 := hid (((Keep.ofQ (F := Own4 db D) L.out.q).trans F6.out.k).toQ (fun i hi he => by have := (L.out.o i he).1; omega))
            go_wp2_with (go_at_call 7; refine (HAW.out _).mono ?_; rintro e w8 ⟨rfl, q8⟩)
            go_ret
            exact ⟨rfl, Q6.out.trans q8⟩
        · by_cases hv0 : 0 < v
          · have hv1 : ¬ v < (rn : Int) := fun h => hv ⟨hv0, h⟩
            clear hv
            have hto := slice_toB ra rn rc rn (by omega) (by omega)
            have hfr := slice_fromB ra rn rc rn (by omega)
            have HFm := hid (HF.out rn (by omega))
            obtain ⟨Y, hY⟩ : ∃ Y, fdX (fdR D es zr (rs.take rn)) = Y := ⟨_, rfl⟩
            rw [hY] at HFm
            go_wp2_with (go_at_call 9; refine HFm.out.mono ?_; rintro e w6 ⟨rfl, f6⟩; have F6 := hid f6; clear f6; refine Hid.out ?_)
            refine hid ?_
            by_cases hY0 : Y = 0
            · subst hY0
              obtain ⟨D', es', zr', zo', li'⟩ := li_step L.out rn (by omega) (by show rn ≤ rn; omega) F6.out hY
              have LL := hid li'
              clear li'
              go_wp2
              refine ⟨⟨D', es', zr', zo', ⟨if rc = rn then ra else Option.map (fun x => x.add rn) ra, rn - rn, rc - rn⟩, rs.drop rn, k + 1, rfl, ?_, ?_, LL.out⟩, ?_⟩
              · first | rfl | (simp; done) | (dsimp only; rw [if_neg (by omega)])
              · rfl
              · simp only []; omega
            · have hYX : Y = X := by rw [← hY]; exact li_bad L.out rn (by rw [hY]; exact hY0)
              subst hYX
              have Q6 := hid (((Keep.ofQ (F := Own4 db D) L.out.q).trans F6.out.k).toQ (fun i hi he => by have := (L.out.o i he).1; omega))
              go_wp2_with (go_at_call 7; refine (HAW.out _).mono ?_; rintro e w8 ⟨rfl, q8⟩)
              go_ret
              exact ⟨rfl, Q6.out.trans q8⟩
          · clear hv
            have hto := slice_toB ra rn rc rn (by omega) (by omega)
            have hfr := slice_fromB ra rn rc rn (by omega)
            have HFm := hid (HF.out rn (by omega))
            obtain ⟨Y, hY⟩ : ∃ Y, fdX (fdR D es zr (rs.take rn)) = Y := ⟨_, rfl⟩
            rw [hY] at HFm
            go_wp2_with (go_at_call 9; refine HFm.out.mono ?_; rintro e w6 ⟨rfl, f6⟩; have F6 := hid f6; clear f6; refine Hid.out ?_)
            refine hid ?_
            by_cases hY0 : Y = 0
            · subst hY0
              obtain ⟨D', es', zr', zo', li'⟩ := li_step L.out rn (by omega) (by show rn ≤ rn; omega) F6.out hY
              have LL := hid li'
              clear li'
              go_wp2
              refine ⟨⟨D', es', zr', zo', ⟨if rc = rn then ra else Option.map (fun x => x.add rn) ra, rn - rn, rc - rn⟩, rs.drop rn, k + 1, rfl, ?_, ?_, LL.out⟩, ?_⟩
              · first | rfl | (simp; done) | (dsimp only; rw [if_neg (by omega)])
              · rfl
              · simp only []; omega
            · have hYX : Y = X := by rw [← hY]; exact li_bad L.out rn (by rw [hY]; exact hY0)
              subst hYX
              have Q6 := hid (((Keep.ofQ (F := Own4 db D) L.out.q).trans F6.out.k).toQ (fun i hi he => by have := (L.out.o i he).1; omega))
              go_wp2_with (go_at_call 7; refine (HAW.out _).mono ?_; rintro e w8 ⟨rfl, q8⟩)
              go_ret
              exact ⟨rfl, Q6.out.trans q8⟩
      · have hto := slice_toB ra rn rc rn (by omega) (by omega)
        have hfr := slice_fromB ra rn rc rn (by omega)
        have HFm := hid (HF.out rn (by omega))
        obtain ⟨Y, hY⟩ : ∃ Y, fdX (fdR D es zr (rs.take rn)) = Y := ⟨_, rfl⟩
        rw [hY] at HFm
        go_wp2_with (go_at_call 9; refine HFm.out.mono ?_; rintro e w6 ⟨rfl, f6⟩; have F6 := hid f6; clear f6; refine Hid.out ?_)
        refine hid ?_
        by_cases hY0 : Y = 0
        · subst hY0
          obtain ⟨D', es', zr', zo', li'⟩ := li_step L.out rn (by omega) (by show rn ≤ rn; omega) F6.out hY
          have LL := hid li'
          clear li'
          go_wp2
          refine ⟨⟨D', es', zr', zo', ⟨if rc = rn then ra else Option.map (fun x => x.add rn) ra, rn - rn, rc - rn⟩, rs.drop rn, k + 1, rfl, ?_, ?_, LL.out⟩, ?_⟩
          · first | rfl | (simp; done) | (dsimp only; rw [if_neg (by omega)])
          · rfl
          · simp only []; omega
        · have hYX : Y = X := by rw [← hY]; exact li_bad L.out rn (by rw [hY]; exact hY0)
          subst hYX
          have Q6 := hid (((Keep.ofQ (F := Own4 db D) L.out.q).trans F6.out.k).toQ (fun i hi he => by have := (L.out.o i he).1; omega))
          go_wp2_with (go_at_call 7; refine (HAW.out _).mono ?_; rintro e w8 ⟨rfl, q8⟩)
          go_ret
          exact ⟨rfl, Q6.out.trans q8⟩
end Go.Proofs.Ytehejibllkmflaa.qpackCuts
