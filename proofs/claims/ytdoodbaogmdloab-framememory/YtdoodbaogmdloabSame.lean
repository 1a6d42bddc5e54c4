/-
  What the document's own Same does at spans and at frames that are equal: contracts that the statements' walks use.
-/
import Derived.Test.YtdoodbaogmdloabAwake
import Derived.Test.YtdoodbaogmdloabRef
import Derived.Laws.StructEq
import Derived.ChangeKeysEq
namespace Go.Proofs.Ytdoodbaogmdloab
open Go.RowKit
set_option linter.unusedVariables false
set_option maxRecDepth 20000

theorem neq77 (a b : Int) (w : World) : (binOp BinOp.neq 36 (.agg #[.int .i64 a, .int .i64 b]) (.agg #[.int .i64 a, .int .i64 b])).run Try.prog w = .ok (.bool false) w := by
  have hp : Try.prog.stoodInHeld 36 = false := by kernel_rfl
  have hu : Try.prog.underlying 36 = some (.struct (Try.prog.fieldsOf 36)) := by kernel_rfl
  rw [run_neq_struct, run_equalIn_agg w 9999 36 _ _ hu hp]
  simp [Program.fieldsOf, Try.underlying36, Op.eqFields, go_sem]
theorem eql24 (a b c : Int) (w : World) : (binOp BinOp.eql 32 (.agg #[.int .i64 a, .int .i64 b, .int .i64 c]) (.agg #[.int .i64 a, .int .i64 b, .int .i64 c])).run Try.prog w = .ok (.bool true) w := by
  obtain ⟨i0, hi, hz0, hz1, hz2⟩ := info_parts info3
  have hcell : Try.prog.cellsOf 3 = 1 := by kernel_rfl
  rw [run_eql_struct, run_equalIn_array w 9999 _ _ Try.underlying32 hi, hcell]
  simp [List.range, List.range.loop, Op.eqItems, go_sem]

set_option maxHeartbeats 2000000 in
theorem sameS_any (s t : Sv) (l : List (Int × Int)) (w : World) (h1 : l.length = s.n) (h2 : l.length = t.n) (hn : s.n ≤ 8796093022208) (hs : SegS w s.a l) (ht : SegS w t.a l) :
    Calls Try.prog 24 #[.slice s.a s.n s.c, .slice t.a t.n t.c] w fun e w' => e = .returned (.bool true) ∧ Q w w' := by
  obtain ⟨sa, n, sc⟩ := s
  obtain ⟨ta, tn, tc⟩ := t
  dsimp only at *
  obtain rfl : n = tn := by omega
  have HL := hid h1
  have HS := hid hs
  have HT := hid ht
  have hnn : ((n : Int) != (n : Int)) = false := by simp
  clear h1 h2 hs ht
  have N7 := neq77
  go_enter Try.func24, Try.ntmps24
  go_wp2
  go_loopw [5] (fun i wr => (∃ k, wr = w.drewN k) ∧ ∃ j : Nat, j ≤ n ∧ i = .int .i64 j) (fun i _ => ((n : Int) - intOf i).toNat)
  case atStart => exact ⟨⟨0, rfl⟩, 0, Nat.zero_le _, rfl⟩
  case round =>
    obtain ⟨⟨k, rfl⟩, j, hj, rfl⟩ := hrel
    by_cases hjn : j < n
    · obtain ⟨b1, o1, rfl, _, p0, p1⟩ := spans_in HS.out (j := j) (by rw [HL.out]; exact hjn)
      obtain ⟨b2, o2, rfl, _, r0, r1⟩ := spans_in HT.out (j := j) (by rw [HL.out]; exact hjn)
      have hji : (j : Int) < (n : Int) := by omega
      have hj0 : (0 : Int) ≤ (j : Int) := by omega
      generalize (l.getD j (0, 0)).1 = x at *
      generalize (l.getD j (0, 0)).2 = y at *
      go_wp2
      go_quiet (fail)
      go_wp2
      go_roundw
      case rel => exact ⟨⟨_, rfl⟩, j + 1, by omega, by go_num⟩
      case measure => simp [intOf]; omega
    · have hji : ¬ (j : Int) < (n : Int) := by omega
      go_wp2
      go_ret
      exact ⟨rfl, (Q.refl w).drewN _⟩

set_option maxHeartbeats 4000000 in
theorem sameF_any (f : Fr) (d c s d' c' s' : Sv) (w : World) (h : Holds w f d c s) (h' : Holds w f d' c' s') (n1 : d.n ≤ 140737488355328) (n2 : c.n ≤ 140737488355328) (n3 : s.n ≤ 8796093022208) :
    Calls Try.prog 12 #[fv f d c s, fv f d' c' s'] w fun e w' => e = .returned (.bool true) ∧ Q w w' := by
  have HH := hid h
  have HK := hid h'
  have m1 : d'.n ≤ 140737488355328 := by have := h.dl; have := h'.dl; omega
  have m2 : c'.n ≤ 140737488355328 := by have := h.cl; have := h'.cl; omega
  have E24 := eql24
  have t0 : (f.kind == f.kind) = true := by simp
  have t1 : (f.id == f.id) = true := by simp
  have t2 : (f.pl == f.pl) = true := by simp
  have t3 : (f.num == f.num) = true := by simp
  have t4 : (f.code == f.code) = true := by simp
  have t5 : (f.fin == f.fin) = true := by simp
  have t6 : (f.dl == f.dl) = true := by simp
  clear h h'
  go_enter Try.func12, Try.ntmps12
  go_wp2_with fail
  generalize hw1 : World.alloc (World.alloc w _) _ = w1
  have q1 : Q w w1 := by rw [← hw1]; exact ((Q.refl w).alloc _).alloc _
  have b1 : Box w1 44 w.heap.size f d c s := by rw [← hw1]; exact heap_alloc2_old w _ _
  have b2 : Box w1 44 (w.heap.size + 1) f d' c' s' := by rw [← hw1]; exact heap_alloc2_new w _ _
  clear hw1
  refine (same_any d.a d'.a d.n d'.n d.c d'.c f.data f.data w1 HH.out.dl HK.out.dl (by omega) (by omega) (HH.out.ds.q q1) (HK.out.ds.q q1)).mono ?_
  rintro e w2 ⟨rfl, q2⟩
  rw [decide_eq_true rfl]
  have x7 := (b1.q q2).c7
  have y7 := (b2.q q2).c7
  have B1 := hid (b1.q q2)
  have B2 := hid (b2.q q2)
  have Q2 := hid (q1.trans q2)
  clear q1 b1 b2 q2
  go_wp2_with fail
  refine (same_any c.a c'.a c.n c'.n c.c c'.c f.cid f.cid w2 HH.out.cl HK.out.cl (by omega) (by omega) (HH.out.cs.q Q2.out) (HK.out.cs.q Q2.out)).mono ?_
  rintro e w3 ⟨rfl, q3⟩
  rw [decide_eq_true rfl]
  have x8 := (B1.out.q q3).c8
  have y8 := (B2.out.q q3).c8
  have B3 := hid (B1.out.q q3)
  have B4 := hid (B2.out.q q3)
  have Q3 := hid (Q2.out.trans q3)
  clear q3 B1 B2 Q2 x7 y7
  go_wp2_with fail
  refine (sameS_any s s' f.sp w3 HH.out.sl HK.out.sl n3 (HH.out.ss.q Q3.out) (HK.out.ss.q Q3.out)).mono ?_
  rintro e w4 ⟨rfl, q4⟩
  have x9 := (B3.out.q q4).c9
  have y9 := (B4.out.q q4).c9
  have x10 := (B3.out.q q4).c10
  have y10 := (B4.out.q q4).c10
  have x11 := (B3.out.q q4).c11
  have y11 := (B4.out.q q4).c11
  have x12 := (B3.out.q q4).c12
  have y12 := (B4.out.q q4).c12
  have Q4 := hid (Q3.out.trans q4)
  clear q4 B3 B4 Q3 x8 y8
  go_wp2
  go_ret
  exact ⟨by first | rfl | simp, Q4.out⟩
end Go.Proofs.Ytdoodbaogmdloab
