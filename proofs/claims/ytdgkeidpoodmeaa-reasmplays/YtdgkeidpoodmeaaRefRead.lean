/-
  What the document's own Read answers and does to its buffer: a contract that the walk of the law ReasmPlays uses.
-/
import Derived.Test.YtdgkeidpoodmeaaRef
import Derived.BigRegion
namespace Go.Proofs.Ytdgkeidpoodmeaa
open Go.RowKit
set_option linter.unusedVariables false

set_option maxHeartbeats 4000000 in
theorem rread_any (rd : Nat) (x : A) (n : Nat) (room : Int) (s : S) (q : Int) (w : World) (hr : Rw w rd x n room s.off s.high s.fin s.known s.xs) (hO : Ok room s) :
    Calls Try.prog 19 #[.pointer (some ⟨rd, 0, none⟩), .int .i64 q] w fun e w' => ∃ x' n' ao co, e = .returned (.tuple #[.slice ao (readM s q) co, .bool (endOf (readSt s q))]) ∧ Rw w' rd x' n' room (readSt s q).off (readSt s q).high (readSt s q).fin (readSt s q).known (readSt s q).xs ∧ Seg w' ao (vals (s.xs.take (readM s q))) ∧ Keep (Fr rd x) w w' ∧ (∀ i, Fr rd x' i → Fr rd x i) := by
  obtain ⟨i0, hi, hz0, hz1, hz2⟩ := info_parts info5
  have HL := hid hr.len
  have HRL := hid (rdy_le s.xs)
  have hn : n ≤ 65536 := by have := hO.len; have := hO.r1; have := hr.len; omega
  have ho : 0 ≤ s.off ∧ s.off ≤ 4611686018427387903 := by have := hO.o0; have := hO.hi; have := hO.h1; omega
  obtain ⟨ho0, ho1⟩ := ho
  have HR := hid hr
  clear hr hO
  have hnr : rdy s.xs ≤ 65536 := by have := HRL.out; have := HL.out; omega
  have HMD := hid (show readM s q = min q.toNat (rdy s.xs) from rfl)
  obtain ⟨ab, cb, ah, ch⟩ := x
  have HOB := hid True.intro
  go_enter Try.func19, Try.ntmps19
  go_wp2_with fail
  refine (rready_any rd _ n room _ _ _ _ s.xs w HR.out hn).mono ?_
  rintro e w1 ⟨rfl, rfl⟩
  by_cases hq : (rdy s.xs : Int) < q
  · go_wp2_with fail
    refine (rready_any rd _ n room _ _ _ _ s.xs w HR.out hn).mono ?_
    rintro e w1 ⟨rfl, rfl⟩
    have HM0 := hid (show readM s q = rdy s.xs from by rw [HMD.out]; omega)
    generalize hm : rdy s.xs = m at *
    have HMR := hid (show m ≤ rdy s.xs from by omega)
    have HM := HM0
    clear hm
    rcases Nat.eq_zero_or_pos m with rfl | hm1
    · have c1 := HR.out.hd.c1
      have c3 := HR.out.hd.c3
      have c4 := HR.out.hd.c4
      have FIN := hid (show ∀ k, Rw (w.drewN k) rd ⟨ab, cb, ah, ch⟩ n room s.off s.high s.fin s.known s.xs ∧ Keep (Fr rd ⟨ab, cb, ah, ch⟩) w (w.drewN k) from fun k => ⟨HR.out.q ((Q.refl w).drewN k), (Keep.refl _ w).drewN k⟩)
      cases hkn : s.known
      all_goals
        rw [hkn] at c3
        go_wp2
        go_quiet (fail)
        go_wp2
        go_ret2
        refine ⟨⟨ab, cb, ah, ch⟩, n, none, 0, ?_, ?_, by rw [HM.out]; exact seg_nil _ _, (FIN.out nq).2, fun i hi => hi⟩
        · rw [HM.out]
          simp [endOf, readSt, hkn, HM.out]
          try rfl
        · have := (FIN.out nq).1
          simp only [readSt, HM.out, List.drop_zero]
          simpa using this
    · have hmn : m ≤ n := by have := HL.out; have := HRL.out; have := HMR.out; omega
      obtain ⟨gb, ob, hab, _, hcb'⟩ := HR.out.sb.some_ (by omega)
      obtain ⟨gh, oh, hah, _, _⟩ := HR.out.sh.some_ (by omega)
      have hcb : n ≤ cb := by
        rcases HR.out.sb.2 with ⟨_, h1, h2⟩ | ⟨g, off, cur, _, _, h1, _⟩
        · omega
        · exact h1
      have hch : n ≤ ch := by
        rcases HR.out.sh.2 with ⟨_, h1, h2⟩ | ⟨g, off, cur, _, _, h1, _⟩
        · omega
        · exact h1
      simp only at hab hah hcb'
      subst hab
      subst hah
      have hsrc : ∀ j u, (bys (s.xs.take m))[j]? = some u → w.cell? ((⟨gb, ob, none⟩ : Addr).add j) = some u := fun j u hj => by
        rw [addr_add]
        refine hcb' j u ?_
        have : bys (s.xs.take m) = (bys s.xs).take m := by simp [bys, vals_take]
        rw [this, List.getElem?_take] at hj
        split at hj
        · exact hj
        · cases hj
      have hone : ∀ u ∈ bys (s.xs.take m), u.oneCell' = true := ints_oneCell _ _
      have hln : (bys (s.xs.take m)).length = m * 1 := by rw [bys_len, List.length_take]; have := HL.out; omega
      obtain ⟨ao, co, w2, hrun, hs2, hk2, hbo⟩ := sub_append (P := Try.prog) (w := w) (t := 28) (tx := 28) (ty := 28) Try.underlying28 hi hz0 hz1 hz2 rfl (sub_nil w 5 1) (Src.ofSlice w Try.underlying28 ⟨gb, ob, none⟩ m cb _ hln hsrc hone) (by unfold maxLen; omega) (by omega)
      simp only [Nat.zero_add, List.nil_append] at hrun hs2
      have hq2 : Q w w2 := hk2.toQ (fun i hi h => by cases h)
      have hr2 := HR.out.q hq2
      have c1 := hr2.hd.c1
      have c3 := hr2.hd.c3
      have c4 := hr2.hd.c4
      have c5 := hr2.hd.c5
      have c6 := hr2.hd.c6
      have c5w := HR.out.hd.c5
      have g1 := hr2.hd.free 1
      have g5 := hr2.hd.free 5
      have g6 := hr2.hd.free 6
      have hwo : IntKind.i64.wrap (s.off + (m : Int)) = s.off + (m : Int) := by rw [IntKind.wrap_i64]; omega
      have HS2 := hid hs2
      have HBO := hid hbo
      have HQ2 := hid hq2
      have HR2 := hid hr2
      have hm0 : (0 : Int) < (m : Int) := by omega
      have hmn' : (m : Int) ≤ (n : Int) := by omega
      have hmcb : (m : Int) ≤ (cb : Int) := by omega
      have hmcb' : m ≤ cb := by omega
      have HNR := hid (show ∀ (ab' ah' : Option Addr) (cb' ch' : Nat) (k : Nat), (ab' = if cb = m then some ⟨gb, ob, none⟩ else (some (⟨gb, ob, none⟩ : Addr)).map (·.add (m * 1))) → (ah' = if ch = m then some ⟨gh, oh, none⟩ else (some (⟨gh, oh, none⟩ : Addr)).map (·.add (m * 1))) → cb' = cb - m → ch' = ch - m →
          Rw (((((w2.setCell ⟨rd, 5, none⟩ (.slice ab' (n - m) cb')).setCell ⟨rd, 6, none⟩ (.slice ah' (n - m) ch')).setCell ⟨rd, 1, none⟩ (.int .i64 (s.off + (m : Int)))).drew).drewN k) rd ⟨ab', cb', ah', ch'⟩ (n - m) room (readSt s q).off (readSt s q).high (readSt s q).fin (readSt s q).known (readSt s q).xs ∧ Seg (((((w2.setCell ⟨rd, 5, none⟩ (.slice ab' (n - m) cb')).setCell ⟨rd, 6, none⟩ (.slice ah' (n - m) ch')).setCell ⟨rd, 1, none⟩ (.int .i64 (s.off + (m : Int)))).drew).drewN k) ao (vals (s.xs.take (readM s q))) ∧ Keep (Fr rd ⟨some ⟨gb, ob, none⟩, cb, some ⟨gh, oh, none⟩, ch⟩) w (((((w2.setCell ⟨rd, 5, none⟩ (.slice ab' (n - m) cb')).setCell ⟨rd, 6, none⟩ (.slice ah' (n - m) ch')).setCell ⟨rd, 1, none⟩ (.int .i64 (s.off + (m : Int)))).drew).drewN k) ∧ (∀ i, Fr rd ⟨ab', cb', ah', ch'⟩ i → Fr rd ⟨some ⟨gb, ob, none⟩, cb, some ⟨gh, oh, none⟩, ch⟩ i) from by
        intro ab' ah' cb' ch' k e1 e2 q1 q2
        subst q1
        subst q2
        have k5 : Keep (fun k => k = rd) w2 ((((w2.setCell ⟨rd, 5, none⟩ (.slice ab' (n - m) (cb - m))).setCell ⟨rd, 6, none⟩ (.slice ah' (n - m) (ch - m))).setCell ⟨rd, 1, none⟩ (.int .i64 (s.off + (m : Int)))).drew) :=
          ((((Keep.refl (fun k => k = rd) w2).setCell rd 5 _ (.inl rfl)).setCell rd 6 _ (.inl rfl)).setCell rd 1 _ (.inl rfl)).drew
        have h5 := ((((HR2.out.hd.bytes_ ab' (n - m) (cb - m)).have_ ah' (n - m) (ch - m)).off_ (s.off + (m : Int))).q ((Q.refl _).drew))
        generalize ((((w2.setCell ⟨rd, 5, none⟩ (.slice ab' (n - m) (cb - m))).setCell ⟨rd, 6, none⟩ (.slice ah' (n - m) (ch - m))).setCell ⟨rd, 1, none⟩ (.int .i64 (s.off + (m : Int)))).drew) = w5 at *
        have f1 := blk_slice e1
        have f2 := blk_slice e2
        have b1 := (HR2.out.sb.slice hmn ab' e1).keep k5 (fun b hb e => HR2.out.e1 (by rw [← e, ← hb, f1]))
        have b2 := (HR2.out.sh.slice hmn ah' e2).keep k5 (fun b hb e => HR2.out.e2 (by rw [← e, ← hb, f2]))
        rw [bys_drop] at b1
        rw [hvs_drop] at b2
        have hq5 := (Q.refl w5).drewN k
        have sx : readSt s q = ⟨s.off + m, s.high, s.fin, s.known, s.xs.drop m⟩ := by unfold readSt; rw [HM.out]
        rw [sx, HM.out]
        refine ⟨⟨h5.q hq5, b1.q hq5, b2.q hq5, ?_, ?_, ?_⟩, ?_, ?_, ?_⟩
        · show blk ab' ≠ _
          rw [f1]; exact HR2.out.e1
        · show blk ah' ≠ _
          rw [f2]; exact HR2.out.e2
        · show ∀ b, blk ab' = some b → blk ah' ≠ some b
          rw [f1, f2]; exact HR2.out.e3
        · refine ((Sub.seg (zs := vals (s.xs.take m)) HS2.out).keep k5 (fun b hb e => ?_)).q hq5
          subst e
          have h3 := HR.out.hd.lt
          rcases HBO.out with h | h
          · rw [h] at hb; cases hb
          · rw [h] at hb; simp at hb; omega
        · exact ((Keep.ofQ HQ2.out).trans (k5.mono (fun i _ e => .inl e))).drewN k
        · rintro i (rfl | h | h)
          · exact .inl rfl
          · exact .inr (.inl (by rw [← f1]; exact h))
          · exact .inr (.inr (by rw [← f2]; exact h)))
      clear hs2 hq2 hr2 hbo hk2 hsrc hone hln hcb'
      go_wp2_with (at_builtin; refine Lib.wpList_append_run _ rfl _ _ _ _ rfl _ _ rfl rfl _ _ hrun ?_)
      by_cases hb1 : cb = m
      all_goals by_cases hb2 : ch = m
      all_goals
        go_region
        go_wp2
        have FIN := hid (fun k => HNR.out _ _ _ _ k rfl rfl rfl rfl)
        have E1 := hid (show (if cb = m then some (⟨gb, ob, none⟩ : Addr) else (some (⟨gb, ob, none⟩ : Addr)).map (·.add (m * 1))) = if cb = m then some ⟨gb, ob, none⟩ else some ⟨gb, ob + m, none⟩ from by simp only [Option.map_some, addr_add, Nat.mul_one])
        have E2 := hid (show (if ch = m then some (⟨gh, oh, none⟩ : Addr) else (some (⟨gh, oh, none⟩ : Addr)).map (·.add (m * 1))) = if ch = m then some ⟨gh, oh, none⟩ else some ⟨gh, oh + m, none⟩ from by simp only [Option.map_some, addr_add, Nat.mul_one])
        rw [E1.out, E2.out] at FIN
        have Z1 := hid (show cb = m → cb - m = 0 from fun h => by omega)
        have Z2 := hid (show ch = m → ch - m = 0 from fun h => by omega)
        clear E1 E2 HNR
        first
          | (rw [if_pos hb1, if_pos hb2, Z1.out hb1, Z2.out hb2] at FIN)
          | (rw [if_pos hb1, if_neg hb2, Z1.out hb1] at FIN)
          | (rw [if_neg hb1, if_pos hb2, Z2.out hb2] at FIN)
          | (rw [if_neg hb1, if_neg hb2] at FIN)
        cases hkn : s.known
        all_goals
          rw [hkn] at c3
          go_quiet (fail)
          go_wp2
          go_ret2
          refine ⟨_, _, ao, co, ?_, (FIN.out nq).1, (FIN.out nq).2.1, (FIN.out nq).2.2.1, (FIN.out nq).2.2.2⟩
          rw [HM.out]
          simp [endOf, readSt, hkn, HM.out]
          try rfl
  · by_cases hq0 : 0 < q
    · obtain ⟨m, rfl⟩ := Int.eq_ofNat_of_zero_le (show 0 ≤ q by omega)
      have HM := hid (show readM s (m : Int) = m from by rw [HMD.out]; omega)
      have HMR := hid (show m ≤ rdy s.xs from by omega)
      have hm1 : 0 < m := by omega
      have hm65 : m ≤ 65536 := by omega
      have hmn : m ≤ n := by have := HL.out; have := HRL.out; have := HMR.out; omega
      obtain ⟨gb, ob, hab, _, hcb'⟩ := HR.out.sb.some_ (by omega)
      obtain ⟨gh, oh, hah, _, _⟩ := HR.out.sh.some_ (by omega)
      have hcb : n ≤ cb := by
        rcases HR.out.sb.2 with ⟨_, h1, h2⟩ | ⟨g, off, cur, _, _, h1, _⟩
        · omega
        · exact h1
      have hch : n ≤ ch := by
        rcases HR.out.sh.2 with ⟨_, h1, h2⟩ | ⟨g, off, cur, _, _, h1, _⟩
        · omega
        · exact h1
      simp only at hab hah hcb'
      subst hab
      subst hah
      have hsrc : ∀ j u, (bys (s.xs.take m))[j]? = some u → w.cell? ((⟨gb, ob, none⟩ : Addr).add j) = some u := fun j u hj => by
        rw [addr_add]
        refine hcb' j u ?_
        have : bys (s.xs.take m) = (bys s.xs).take m := by simp [bys, vals_take]
        rw [this, List.getElem?_take] at hj
        split at hj
        · exact hj
        · cases hj
      have hone : ∀ u ∈ bys (s.xs.take m), u.oneCell' = true := ints_oneCell _ _
      have hln : (bys (s.xs.take m)).length = m * 1 := by rw [bys_len, List.length_take]; have := HL.out; omega
      obtain ⟨ao, co, w2, hrun, hs2, hk2, hbo⟩ := sub_append (P := Try.prog) (w := w) (t := 28) (tx := 28) (ty := 28) Try.underlying28 hi hz0 hz1 hz2 rfl (sub_nil w 5 1) (Src.ofSlice w Try.underlying28 ⟨gb, ob, none⟩ m cb _ hln hsrc hone) (by unfold maxLen; omega) (by omega)
      simp only [Nat.zero_add, List.nil_append] at hrun hs2
      have hq2 : Q w w2 := hk2.toQ (fun i hi h => by cases h)
      have hr2 := HR.out.q hq2
      have c1 := hr2.hd.c1
      have c3 := hr2.hd.c3
      have c4 := hr2.hd.c4
      have c5 := hr2.hd.c5
      have c6 := hr2.hd.c6
      have c5w := HR.out.hd.c5
      have g1 := hr2.hd.free 1
      have g5 := hr2.hd.free 5
      have g6 := hr2.hd.free 6
      have hwo : IntKind.i64.wrap (s.off + (m : Int)) = s.off + (m : Int) := by rw [IntKind.wrap_i64]; omega
      have HS2 := hid hs2
      have HBO := hid hbo
      have HQ2 := hid hq2
      have HR2 := hid hr2
      have hm0 : (0 : Int) < (m : Int) := by omega
      have hmn' : (m : Int) ≤ (n : Int) := by omega
      have hmcb : (m : Int) ≤ (cb : Int) := by omega
      have hmcb' : m ≤ cb := by omega
      have HNR := hid (show ∀ (ab' ah' : Option Addr) (cb' ch' : Nat) (k : Nat), (ab' = if cb = m then some ⟨gb, ob, none⟩ else (some (⟨gb, ob, none⟩ : Addr)).map (·.add (m * 1))) → (ah' = if ch = m then some ⟨gh, oh, none⟩ else (some (⟨gh, oh, none⟩ : Addr)).map (·.add (m * 1))) → cb' = cb - m → ch' = ch - m →
          Rw (((((w2.setCell ⟨rd, 5, none⟩ (.slice ab' (n - m) cb')).setCell ⟨rd, 6, none⟩ (.slice ah' (n - m) ch')).setCell ⟨rd, 1, none⟩ (.int .i64 (s.off + (m : Int)))).drew).drewN k) rd ⟨ab', cb', ah', ch'⟩ (n - m) room (readSt s (m : Int)).off (readSt s (m : Int)).high (readSt s (m : Int)).fin (readSt s (m : Int)).known (readSt s (m : Int)).xs ∧ Seg (((((w2.setCell ⟨rd, 5, none⟩ (.slice ab' (n - m) cb')).setCell ⟨rd, 6, none⟩ (.slice ah' (n - m) ch')).setCell ⟨rd, 1, none⟩ (.int .i64 (s.off + (m : Int)))).drew).drewN k) ao (vals (s.xs.take (readM s (m : Int)))) ∧ Keep (Fr rd ⟨some ⟨gb, ob, none⟩, cb, some ⟨gh, oh, none⟩, ch⟩) w (((((w2.setCell ⟨rd, 5, none⟩ (.slice ab' (n - m) cb')).setCell ⟨rd, 6, none⟩ (.slice ah' (n - m) ch')).setCell ⟨rd, 1, none⟩ (.int .i64 (s.off + (m : Int)))).drew).drewN k) ∧ (∀ i, Fr rd ⟨ab', cb', ah', ch'⟩ i → Fr rd ⟨some ⟨gb, ob, none⟩, cb, some ⟨gh, oh, none⟩, ch⟩ i) from by
        intro ab' ah' cb' ch' k e1 e2 q1 q2
        subst q1
        subst q2
        have k5 : Keep (fun k => k = rd) w2 ((((w2.setCell ⟨rd, 5, none⟩ (.slice ab' (n - m) (cb - m))).setCell ⟨rd, 6, none⟩ (.slice ah' (n - m) (ch - m))).setCell ⟨rd, 1, none⟩ (.int .i64 (s.off + (m : Int)))).drew) :=
          ((((Keep.refl (fun k => k = rd) w2).setCell rd 5 _ (.inl rfl)).setCell rd 6 _ (.inl rfl)).setCell rd 1 _ (.inl rfl)).drew
        have h5 := ((((HR2.out.hd.bytes_ ab' (n - m) (cb - m)).have_ ah' (n - m) (ch - m)).off_ (s.off + (m : Int))).q ((Q.refl _).drew))
        generalize ((((w2.setCell ⟨rd, 5, none⟩ (.slice ab' (n - m) (cb - m))).setCell ⟨rd, 6, none⟩ (.slice ah' (n - m) (ch - m))).setCell ⟨rd, 1, none⟩ (.int .i64 (s.off + (m : Int)))).drew) = w5 at *
        have f1 := blk_slice e1
        have f2 := blk_slice e2
        have b1 := (HR2.out.sb.slice hmn ab' e1).keep k5 (fun b hb e => HR2.out.e1 (by rw [← e, ← hb, f1]))
        have b2 := (HR2.out.sh.slice hmn ah' e2).keep k5 (fun b hb e => HR2.out.e2 (by rw [← e, ← hb, f2]))
        rw [bys_drop] at b1
        rw [hvs_drop] at b2
        have hq5 := (Q.refl w5).drewN k
        have sx : readSt s (m : Int) = ⟨s.off + m, s.high, s.fin, s.known, s.xs.drop m⟩ := by unfold readSt; rw [HM.out]
        rw [sx, HM.out]
        refine ⟨⟨h5.q hq5, b1.q hq5, b2.q hq5, ?_, ?_, ?_⟩, ?_, ?_, ?_⟩
        · show blk ab' ≠ _
          rw [f1]; exact HR2.out.e1
        · show blk ah' ≠ _
          rw [f2]; exact HR2.out.e2
        · show ∀ b, blk ab' = some b → blk ah' ≠ some b
          rw [f1, f2]; exact HR2.out.e3
        · refine ((Sub.seg (zs := vals (s.xs.take m)) HS2.out).keep k5 (fun b hb e => ?_)).q hq5
          subst e
          have h3 := HR.out.hd.lt
          rcases HBO.out with h | h
          · rw [h] at hb; cases hb
          · rw [h] at hb; simp at hb; omega
        · exact ((Keep.ofQ HQ2.out).trans (k5.mono (fun i _ e => .inl e))).drewN k
        · rintro i (rfl | h | h)
          · exact .inl rfl
          · exact .inr (.inl (by rw [← f1]; exact h))
          · exact .inr (.inr (by rw [← f2]; exact h)))
      clear hs2 hq2 hr2 hbo hk2 hsrc hone hln hcb'
      go_wp2_with (at_builtin; refine Lib.wpList_append_run _ rfl _ _ _ _ rfl _ _ rfl rfl _ _ hrun ?_)
      by_cases hb1 : cb = m
      all_goals by_cases hb2 : ch = m
      all_goals
        go_region
        go_wp2
        have FIN := hid (fun k => HNR.out _ _ _ _ k rfl rfl rfl rfl)
        have E1 := hid (show (if cb = m then some (⟨gb, ob, none⟩ : Addr) else (some (⟨gb, ob, none⟩ : Addr)).map (·.add (m * 1))) = if cb = m then some ⟨gb, ob, none⟩ else some ⟨gb, ob + m, none⟩ from by simp only [Option.map_some, addr_add, Nat.mul_one])
        have E2 := hid (show (if ch = m then some (⟨gh, oh, none⟩ : Addr) else (some (⟨gh, oh, none⟩ : Addr)).map (·.add (m * 1))) = if ch = m then some ⟨gh, oh, none⟩ else some ⟨gh, oh + m, none⟩ from by simp only [Option.map_some, addr_add, Nat.mul_one])
        rw [E1.out, E2.out] at FIN
        have Z1 := hid (show cb = m → cb - m = 0 from fun h => by omega)
        have Z2 := hid (show ch = m → ch - m = 0 from fun h => by omega)
        clear E1 E2 HNR
        first
          | (rw [if_pos hb1, if_pos hb2, Z1.out hb1, Z2.out hb2] at FIN)
          | (rw [if_pos hb1, if_neg hb2, Z1.out hb1] at FIN)
          | (rw [if_neg hb1, if_pos hb2, Z2.out hb2] at FIN)
          | (rw [if_neg hb1, if_neg hb2] at FIN)
        cases hkn : s.known
        all_goals
          rw [hkn] at c3
          go_quiet (fail)
          go_wp2
          go_ret2
          refine ⟨_, _, ao, co, ?_, (FIN.out nq).1, (FIN.out nq).2.1, (FIN.out nq).2.2.1, (FIN.out nq).2.2.2⟩
          rw [HM.out]
          simp [endOf, readSt, hkn, HM.out]
          try rfl
    · have HM := hid (show readM s q = 0 from by rw [HMD.out]; omega)
      have c1 := HR.out.hd.c1
      have c3 := HR.out.hd.c3
      have c4 := HR.out.hd.c4
      have FIN := hid (show ∀ k, Rw (w.drewN k) rd ⟨ab, cb, ah, ch⟩ n room s.off s.high s.fin s.known s.xs ∧ Keep (Fr rd ⟨ab, cb, ah, ch⟩) w (w.drewN k) from fun k => ⟨HR.out.q ((Q.refl w).drewN k), (Keep.refl _ w).drewN k⟩)
      cases hkn : s.known
      all_goals
        rw [hkn] at c3
        go_wp2
        go_quiet (fail)
        go_wp2
        go_ret2
        refine ⟨⟨ab, cb, ah, ch⟩, n, none, 0, ?_, ?_, by rw [HM.out]; exact seg_nil _ _, (FIN.out nq).2, fun i hi => hi⟩
        · rw [HM.out]
          simp [endOf, readSt, hkn, HM.out]
          try rfl
        · have := (FIN.out nq).1
          simp only [readSt, HM.out, List.drop_zero]
          simpa using this
end Go.Proofs.Ytdgkeidpoodmeaa
