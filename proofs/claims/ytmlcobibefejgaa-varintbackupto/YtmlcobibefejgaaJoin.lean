/-
  What the document's own Join does with three pieces that are together not too long: new memory with the pieces one behind the other. A contract that a statement's walk uses.
-/
import Derived.Test.YtmlcobibefejgaaCopy
import Derived.Laws.AppendOwnNone
namespace Go.Proofs.Ytmlcobibefejgaa
open Go.RowKit
set_option linter.unusedVariables false

/-- 'append(out, p...)': out the call's own, p any bytes (nil, too). -/
theorem wpList_append_seg {ops : Array Oper} {rest : List Oper} {o : Oper} {a : Act} {R : Exit → Act → World → Prop} (w w0 : World) (hgd : o.guard = none) (s x : Operand)
    (ho : o.op = .call { callee := .builtin .append, args := #[s, x], argTypes := #[22, 22] }) (base g0 n cap0 : Nat) (xs : List Int)
    (hs : a.eval s = .slice (some ⟨g0, 0, none⟩) n cap0) (hown : Own w base (some ⟨g0, 0, none⟩) n cap0 xs)
    (ad : Option Addr) (m c : Nat) (zs : List Int) (hx : a.eval x = .slice ad m c) (hm : zs.length = m) (hnil : ad = none → m = 0 ∧ c = 0) (hseg : Seg w ad zs)
    (hb : n + m ≤ 140737488355328) (hbase : base ≤ w.heap.size) (hbel : Below base w0 w)
    (h : ∀ g cap w', Own w' base (some ⟨g, 0, none⟩) (n + m) cap (xs ++ zs) → Below base w0 w' → wpList Try.prog ops R rest (a.put o.dst (.slice (some ⟨g, 0, none⟩) (n + m) cap)) w') :
    wpList Try.prog ops R (o :: rest) a w := by
  obtain ⟨i0, hi, hz0, hz1, hz2⟩ := info_parts info5
  cases ad with
  | none =>
    obtain ⟨rfl, rfl⟩ := hnil rfl
    obtain rfl : zs = [] := List.eq_nil_of_length_eq_zero hm
    refine wpList_append_own_none hgd s x 22 ho base 5 i0 1 Try.underlying22 hi _ n _ hs hown hx ?_
    simpa using h g0 cap0 w (by simpa using hown) hbel
  | some ad =>
    refine wpList_append_own w hgd s x 22 ho base 5 i0 (.int .u8 0) 1 1 Try.underlying22 hi hz0 hz1 hz2 rfl (by decide) _ n _ hs hown ad m c (zs.map (Value.int .u8)) hx (by simp [hm]) ?_ (ints_oneCell _ _) (by unfold maxLen; omega) (by omega) hbase ?_
    · by_cases hz : zs = []
      · subst hz; intro j u hj; simp at hj
      · have := copy_src hseg (Q.refl w) (by cases zs with | nil => exact absurd rfl hz | cons y r => simp)
        obtain ⟨ad', e, hc⟩ := this
        cases e
        exact hc
    · intro v' w' hown' hgr hiff
      have hl := hown.lt g0 rfl
      have hbel' : Below base w0 w' := hbel.grown hgr hbase (by intro k hk; cases hk; exact hl.1)
      rcases hown'.2 with ⟨h1, h2⟩ | ⟨g, cap, cur, rfl, _⟩
      · have := (hiff.1 h1).1
        simp at this
      · exact h g cap w' (by rw [← List.map_append] at hown'; exact hown') hbel'

set_option maxHeartbeats 1000000 in
theorem join_any (pb n0 n1 n2 c0 c1 c2 : Nat) (a0 a1 a2 : Option Addr) (z0 z1 z2 : List Int) (w : World)
    (p0 : w.cell? ⟨pb, 0, none⟩ = some (.slice a0 n0 c0)) (p1 : w.cell? ⟨pb, 1, none⟩ = some (.slice a1 n1 c1)) (p2 : w.cell? ⟨pb, 2, none⟩ = some (.slice a2 n2 c2))
    (l0 : z0.length = n0) (l1 : z1.length = n1) (l2 : z2.length = n2) (e0 : a0 = none → n0 = 0 ∧ c0 = 0) (e1 : a1 = none → n1 = 0 ∧ c1 = 0) (e2 : a2 = none → n2 = 0 ∧ c2 = 0)
    (s0 : Seg w a0 z0) (s1 : Seg w a1 z1) (s2 : Seg w a2 z2) (hb : n0 + n1 + n2 ≤ 140737488355328) :
    Calls Try.prog 18 #[.slice (some ⟨pb, 0, none⟩) 3 3] w fun e w' => ∃ g cap, e = .returned (.slice (some ⟨g, 0, none⟩) (n0 + n1 + n2) cap) ∧ Q w w' ∧ Own w' w.heap.size (some ⟨g, 0, none⟩) (n0 + n1 + n2) cap (z0 ++ z1 ++ z2) := by
  have hpb := lt_of_cell p0
  have L0 := hid l0
  have L1 := hid l1
  have L2 := hid l2
  have E0 := hid e0
  have E1 := hid e1
  have E2 := hid e2
  have S0 := hid s0
  have S1 := hid s1
  have S2 := hid s2
  clear l0 l1 l2 e0 e1 e2 s0 s1 s2
  have OW := hid (show Own (w.alloc (.cells #[] 5)) w.heap.size (some ⟨w.heap.size, 0, none⟩) 0 0 [] from World.ownsRow_lit (base := w.heap.size) (e := 5) (size := 1) w #[] 0 (Nat.le_refl _) (by decide) (by simp))
  have BW := hid (show Below w.heap.size w (w.alloc (.cells #[] 5)) from (Below.refl _ _).alloc (Nat.le_refl _) _)
  go_enter Try.func18, Try.ntmps18
  go_wp2
  refine wp_loop_rounds 4 ?_
  rw [rounds_succ]
  go_wp2_with (at_builtin; refine wpList_append_seg _ w rfl _ _ rfl w.heap.size w.heap.size 0 0 [] rfl OW.out a0 n0 c0 z0 rfl L0.out E0.out (S0.out.q BW.out) (by omega) (by simp) BW.out ?_; intro g1 k1 w1 ho1 hb1)
  have r1 : w1.cell? ⟨pb, 1, none⟩ = some (.slice a1 n1 c1) := (hb1.cell (p := ⟨pb, 1, none⟩) hpb).trans p1
  have r2 : w1.cell? ⟨pb, 2, none⟩ = some (.slice a2 n2 c2) := (hb1.cell (p := ⟨pb, 2, none⟩) hpb).trans p2
  have O1 := hid (show Own w1 w.heap.size (some ⟨g1, 0, none⟩) n0 k1 z0 from by simpa using ho1)
  have B1 := hid hb1
  clear ho1 hb1 p0 p1 p2
  rw [rounds_succ]
  go_wp2_with (at_builtin; refine wpList_append_seg _ w rfl _ _ rfl w.heap.size g1 n0 k1 z0 rfl O1.out a1 n1 c1 z1 rfl L1.out E1.out (S1.out.q B1.out) (by omega) B1.out.size B1.out ?_; intro g2 k2 w2 ho2 hb2)
  have r3 : w2.cell? ⟨pb, 2, none⟩ = some (.slice a2 n2 c2) := (hb2.cell (p := ⟨pb, 2, none⟩) hpb).trans (((B1.out.cell (p := ⟨pb, 2, none⟩) hpb).symm).trans r2)
  have O2 := hid ho2
  have B2 := hid hb2
  clear ho2 hb2 r1 r2
  rw [rounds_succ]
  go_wp2_with (at_builtin; refine wpList_append_seg _ w rfl _ _ rfl w.heap.size g2 (n0 + n1) k2 (z0 ++ z1) rfl O2.out a2 n2 c2 z2 rfl L2.out E2.out (S2.out.q B2.out) (by omega) B2.out.size B2.out ?_; intro g3 k3 w3 ho3 hb3)
  have O3 := hid ho3
  have B3 := hid hb3
  clear ho3 hb3 r3
  rw [rounds_succ]
  go_wp2
  go_ret
  exact ⟨g3, k3, rfl, B3.out, O3.out⟩

end Go.Proofs.Ytmlcobibefejgaa
