/-
  What the document's own Same does with equal parameters: a contract that the statements' walks use.
-/
import Derived.Test.YtidbimhcebfjfaaOf
import Derived.Test.YtidbimhcebfjfaaRef
import Derived.BigQuiet
import Derived.Deep.QuietTactic
import Derived.Deep.RegionHeld3
import Derived.Deep.DrawnRows
namespace Go.Proofs.Ytidbimhcebfjfaa
open Go.RowKit
set_option linter.unusedVariables false
set_option maxRecDepth 20000
attribute [local go_sem ↓] Go.wp_at_zero Go.wp_at_succ

theorem rc_at (m : Pm) (s : Nat → Sv) : ∀ k, k < 17 → (rc m s)[k]? = some (.int .i64 (m.num k)) ∧ (rc m s)[17 + k]? = some (.bool (m.has k)) ∧ (rc m s)[34 + k]? = some (sv (s k))
  | 0, _ => ⟨rfl, rfl, rfl⟩
  | 1, _ => ⟨rfl, rfl, rfl⟩
  | 2, _ => ⟨rfl, rfl, rfl⟩
  | 3, _ => ⟨rfl, rfl, rfl⟩
  | 4, _ => ⟨rfl, rfl, rfl⟩
  | 5, _ => ⟨rfl, rfl, rfl⟩
  | 6, _ => ⟨rfl, rfl, rfl⟩
  | 7, _ => ⟨rfl, rfl, rfl⟩
  | 8, _ => ⟨rfl, rfl, rfl⟩
  | 9, _ => ⟨rfl, rfl, rfl⟩
  | 10, _ => ⟨rfl, rfl, rfl⟩
  | 11, _ => ⟨rfl, rfl, rfl⟩
  | 12, _ => ⟨rfl, rfl, rfl⟩
  | 13, _ => ⟨rfl, rfl, rfl⟩
  | 14, _ => ⟨rfl, rfl, rfl⟩
  | 15, _ => ⟨rfl, rfl, rfl⟩
  | 16, _ => ⟨rfl, rfl, rfl⟩
  | k + 17, h => by omega
/-- Two that are the same, their bytes in memory. -/
structure Alike (w : World) (m1 m2 : Pm) (s1 s2 : Nat → Sv) : Prop where
  n : ∀ i, i < 17 → m1.num i = m2.num i
  h : ∀ i, i < 17 → m1.has i = m2.has i
  b : ∀ i, i < 17 → m1.has i = true → Seg w (s1 i).a (m1.byt i) ∧ (m1.byt i).length = (s1 i).n ∧ Seg w (s2 i).a (m1.byt i) ∧ (m1.byt i).length = (s2 i).n ∧ (s1 i).n ≤ 140737488355328
  v : m1.mv = m2.mv
def SmR (w : World) (ab bb : Nat) (m1 m2 : Pm) (s1 s2 : Nat → Sv) (k : Nat) (wr : World) : Prop := k ≤ 17 ∧ Q w wr ∧ RB wr ab (rc m1 s1) ∧ RB wr bb (rc m2 s2)
theorem RB.q {w w' : World} {b : Nat} {cs : Array Value} (h : RB w b cs) (q : Q w w') : RB w' b cs := (Below.block q b (lt_of_block h)).trans h

theorem rsame_b (x y : Sv) (zs : List Int) (w : World) (l1 : zs.length = x.n) (l2 : zs.length = y.n) (b1 : x.n ≤ 140737488355328) (h1 : Seg w x.a zs) (h2 : Seg w y.a zs) :
    Calls Try.prog 14 #[.slice x.a x.n x.c, .slice y.a y.n y.c] w fun e w' => e = .returned (.bool true) ∧ Q w w' := by
  refine (same_any x.a y.a x.n y.n x.c y.c zs zs w l1 l2 (by omega) (by omega) h1 h2).mono ?_
  rintro e w' ⟨rfl, h⟩
  exact ⟨by simp, h⟩
set_option maxHeartbeats 16000000 in
theorem rsame_yes (m1 m2 : Pm) (s1 s2 : Nat → Sv) (w : World) (ha : Alike w m1 m2 s1 s2) :
    Calls Try.prog 15 #[.agg (rc m1 s1), .agg (rc m2 s2)] w fun e w' => e = .returned (.bool true) ∧ Q w w' := by
  have HA := hid ha
  clear ha
  go_enter Try.func15, Try.ntmps15
  go_upto_region 1 with fail
  generalize hw1 : World.alloc (World.alloc w _) _ = w1
  have R1 := hid (show RB w1 w.heap.size (rc m1 s1) from by rw [← hw1]; exact RB.q (heap_alloc_new w _) ((Q.refl _).alloc _))
  have T1 := hid (show RB w1 (w.heap.size + 1) (rc m2 s2) from by rw [← hw1]; exact rb_new2 w _ _)
  have Q1 := hid (show Q w w1 from by rw [← hw1]; exact ((Q.refl w).alloc _).alloc _)
  clear hw1
  generalize w.heap.size = ab at *
  go_wp2_with fail
  go_loopw [5] (fun i wr => ∃ k : Nat, i = .int .i64 k ∧ SmR w ab (ab + 1) m1 m2 s1 s2 k wr) (fun i _ => 17 - (intOf i).toNat)
  case atStart => exact ⟨0, rfl, by omega, Q1.out, R1.out, T1.out⟩
  case round =>
    obtain ⟨k, rfl, hk, hq, hr, ht⟩ := hrel
    have HQ := hid hq
    have HR := hid hr
    have HT := hid ht
    clear hq hr ht Q1 R1 T1
    by_cases hlt : k < 17
    · have hd1 : decide ((k : Int) ≤ 16) = true := by simp; omega
      obtain ⟨x1, x2, x3⟩ := rc_at m1 s1 k hlt
      obtain ⟨y1, y2, y3⟩ := rc_at m2 s2 k hlt
      have c1 := HR.out.cell x1
      have c2 := HR.out.cell x2
      have c3 := HR.out.cell x3
      have d1 := HT.out.cell y1
      have d2 := HT.out.cell y2
      have d3 := HT.out.cell y3
      rw [← HA.out.n k hlt] at d1
      rw [← HA.out.h k hlt] at d2
      have hlt17 : (k : Int) < 17 := by omega
      have h0k : (0 : Int) ≤ (k : Int) := by omega
      clear x1 x2 x3 y1 y2 y3
      have hn1 : (m1.num k != m1.num k) = false := by simp
      have HB := hid (HA.out.b k hlt)
      have hl1 := lt_of_cell c1
      have hl2 := lt_of_cell d1
      generalize m1.num k = nk at *
      generalize hhk : m1.has k = hk' at *
      clear hhk
      cases hk' with
      | false =>
        clear c3 d3
        go_wp2_with fail
        go_quiet (fail)
        go_wp2
        have q2 : Q wr (wr.drewN nq) := (Q.refl wr).drewN _
        exact ⟨⟨k + 1, by go_num, by omega, HQ.out.trans q2, HR.out.q q2, HT.out.q q2⟩, by simp [intOf]; omega⟩
      | true =>
        obtain ⟨b1, b2, b3, b4, b5⟩ := HB.out rfl
        have HS := hid (fun (W : World) (q : Q wr W) => rsame_b (s1 k) (s2 k) (m1.byt k) W b2 b4 (by omega) ((b1.q HQ.out).q q) ((b3.q HQ.out).q q))
        clear b1 b2 b3 b4 b5 HB
        generalize s1 k = xk at *
        generalize s2 k = yk at *
        obtain ⟨xa, xn, xc⟩ := xk
        obtain ⟨ya, yn, yc⟩ := yk
        have q0 : Q wr wr := Q.refl wr
        go_wp2_with fail
        go_region_held3 (fun u => Q wr u ∧ u.cell? ⟨ab, k, none⟩ = some (.int .i64 nk) ∧ u.cell? ⟨ab, 17 + k, none⟩ = some (.bool true) ∧ u.cell? ⟨ab, 34 + k, none⟩ = some (.slice xa xn xc) ∧ u.cell? ⟨ab + 1, k, none⟩ = some (.int .i64 nk) ∧ u.cell? ⟨ab + 1, 17 + k, none⟩ = some (.bool true) ∧ u.cell? ⟨ab + 1, 34 + k, none⟩ = some (.slice ya yn yc)) (repeat (first | (with_reducible assumption) | (with_reducible apply And.intro) | (with_reducible apply Q.drew) | (with_reducible refine dcel ?_)))
          ((go_at_call 14; refine (HS.out _ (by repeat (first | (with_reducible assumption) | (with_reducible apply Q.drew)))).mono ?_; rintro e w2 ⟨rfl, q2⟩; have j2 : Q wr w2 := Q.trans (by repeat (first | (with_reducible assumption) | (with_reducible apply Q.drew))) q2; have e1 := (q2.cell (p := ⟨ab, k, none⟩) hl1).trans (dcel c1); have e2 := (q2.cell (p := ⟨ab, 17 + k, none⟩) hl1).trans (dcel c2); have e3 := (q2.cell (p := ⟨ab, 34 + k, none⟩) hl1).trans (dcel c3); have e4 := (q2.cell (p := ⟨ab + 1, k, none⟩) hl2).trans (dcel d1); have e5 := (q2.cell (p := ⟨ab + 1, 17 + k, none⟩) hl2).trans (dcel d2); have e6 := (q2.cell (p := ⟨ab + 1, 34 + k, none⟩) hl2).trans (dcel d3)))
        go_wp2
        exact ⟨⟨k + 1, by go_num, by omega, HQ.out.trans j2, HR.out.q j2, HT.out.q j2⟩, by simp [intOf]; omega⟩
    · have hk17 : k = 17 := by omega
      subst hk17
      have c1 := HR.out.cell (j := 51) (v := .bool m1.mv) rfl
      have d1 := HT.out.cell (j := 51) (v := .bool m2.mv) rfl
      rw [← HA.out.v] at d1
      generalize m1.mv = vv at *
      go_wp2
      go_ret
      exact ⟨by simp, HQ.out⟩
end Go.Proofs.Ytidbimhcebfjfaa
