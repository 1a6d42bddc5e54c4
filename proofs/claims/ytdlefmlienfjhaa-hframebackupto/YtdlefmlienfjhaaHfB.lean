/-
  A reader of frames in memory, and its small methods: contracts that the statements' walks use.
-/
import Derived.Test.YtdlefmlienfjhaaJoin
import Derived.Test.YtdlefmlienfjhaaGet
import Derived.Test.YtdlefmlienfjhaaHfC
namespace Go.Proofs.Ytdlefmlienfjhaa
open Go.RowKit
set_option linter.unusedVariables false
set_option maxRecDepth 20000

abbrev hC (H : Hf) (s : Sv) : Array Value := #[.int .i64 H.st, .int .i64 H.lim, .slice s.a s.n s.c, .bool H.ended, .int .i64 H.begun, .bool H.ins, .int .i64 H.fr, .int .i64 H.left, .bool H.done, .int .i64 H.fault]
theorem blk_q {w w' : World} {b : Nat} {o : Obj} (k : Q w w') (h : w.heap[b]? = some o) : w'.heap[b]? = some o := by
  rw [Below.block k b (lt_of_block h)]; exact h
/-- A reader's words, and the bytes that it holds: a row of its own. -/
structure HI (w : World) (rb : Nat) (H : Hf) (s : Sv) : Prop where
  b : w.heap[rb]? = some (.cells (hC H s) 76 (0, 0))
  r : Row w s H.held
  d : ∀ b, blk s.a = some b → b ≠ rb
theorem HI.q {w w' : World} {rb : Nat} {H : Hf} {s : Sv} (h : HI w rb H s) (k : Q w w') : HI w' rb H s := ⟨blk_q k h.b, Sub.q h.r k, h.d⟩
theorem HI.keep {F : Nat → Prop} {w w' : World} {rb : Nat} {H : Hf} {s : Sv} (h : HI w rb H s) (k : Keep F w w') (hn : ¬ F rb) (hs : ∀ b, blk s.a = some b → ¬ F b) : HI w' rb H s :=
  ⟨(k.block rb (lt_of_block h.b) hn).trans h.b, Sub.keep h.r k hs, h.d⟩
theorem HI.c {w : World} {rb : Nat} {H : Hf} {s : Sv} (h : HI w rb H s) (k : Nat) (v : Value) (hk : (hC H s)[k]? = some v) : w.cell? ⟨rb, k, none⟩ = some v := by rw [cell_of_row w _ k _ 76 (0, 0) h.b]; exact hk
theorem HI.f {w : World} {rb : Nat} {H : Hf} {s : Sv} (h : HI w rb H s) (k : Nat) : w.frozen? ⟨rb, k, none⟩ = false := frozen_of_row w _ k _ 76 h.b
theorem HI.lt {w : World} {rb : Nat} {H : Hf} {s : Sv} (h : HI w rb H s) : rb < w.heap.size := lt_of_block h.b
theorem HI.len {w : World} {rb : Nat} {H : Hf} {s : Sv} (h : HI w rb H s) : H.held.length = s.n := Row.len h.r
theorem hC_set {w : World} {rb : Nat} {H : Hf} {s : Sv} (h : w.heap[rb]? = some (.cells (hC H s) 76 (0, 0))) (k : Nat) (v : Value) (H' : Hf) (s' : Sv) (hd : (hC H s).setIfInBounds k v = hC H' s') : (w.setCell ⟨rb, k, none⟩ v).heap[rb]? = some (.cells (hC H' s') 76 (0, 0)) := by
  rw [← hd]
  exact heap_setCell_same w _ k _ 76 v h
/-- A word is written. -/
theorem HI.set {w : World} {rb : Nat} {H : Hf} {s : Sv} (h : HI w rb H s) (k : Nat) (v : Value) (H' : Hf) (hd : (hC H s).setIfInBounds k v = hC H' s) (hh : H'.held = H.held) : HI (w.setCell ⟨rb, k, none⟩ v) rb H' s :=
  ⟨hC_set h.b k v H' s hd, by rw [hh]; exact Sub.keep h.r ((Keep.refl (fun b => b = rb) w).setCell rb k v (.inl rfl)) (fun b e e2 => h.d b e e2), h.d⟩
theorem keepSet (w : World) (rb k : Nat) (v : Value) : Keep (fun b => b = rb) w (w.setCell ⟨rb, k, none⟩ v) := (Keep.refl _ w).setCell rb k v (.inl rfl)

/-- A reader as New makes it. -/
abbrev hf0 (st lim : Int) : Hf := ⟨st, lim, [], false, 0, false, 0, 0, false, 0⟩
def nwk (st lim : Int) : Prop := (st = 1 ∨ st = 2) ∧ 0 ≤ lim ∧ lim ≤ 1048576
set_option maxHeartbeats 4000000 in
theorem new_ok (st lim : Int) (w : World) (h : nwk st lim) : Calls Try.prog 8 #[.int .i64 st, .int .i64 lim] w fun e w' => e = .returned (.tuple #[.pointer (some ⟨w.heap.size, 0, none⟩), .int .i64 0]) ∧ Q w w' ∧ HI w' w.heap.size (hf0 st lim) nilS := by
  obtain ⟨h0, h1, h2⟩ := h
  have hb : decide (lim < 0) = false := decide_eq_false (by omega)
  have hb2 : decide (1048576 < lim) = false := decide_eq_false (by omega)
  rcases h0 with rfl | rfl
  all_goals
    go_enter Try.func8, Try.ntmps8
    go_wp2
    go_ret2
    exact ⟨rfl, (Q.refl w).alloc _, ⟨heap_alloc_new w _, sub_nil _ _ _, fun b e => by cases e⟩⟩
theorem bound_any (rb : Nat) (lim fr : Int) (w : World) (c1 : w.cell? ⟨rb, 1, none⟩ = some (.int .i64 lim)) :
    Calls Try.prog 39 #[.pointer (some ⟨rb, 0, none⟩), .int .i64 fr] w fun e w' => e = .returned (.tuple #[.int .i64 (mostOf lim fr), .bool (bnd fr)]) ∧ w = w' := by
  by_cases h1 : fr = 1
  · subst h1
    go_enter Try.func39, Try.ntmps39
    go_wp2
    go_ret2
    exact ⟨rfl, rfl⟩
  by_cases h2 : fr = 4 ∨ fr = 7 ∨ fr = 13
  · rcases h2 with rfl | rfl | rfl
    all_goals
      go_enter Try.func39, Try.ntmps39
      go_wp2
      go_ret2
      exact ⟨rfl, rfl⟩
  · have e1 : mostOf lim fr = 0 := by unfold mostOf; rw [if_neg h1, if_neg h2]
    have e2 : bnd fr = false := decide_eq_false (fun h => h.elim h1 h2)
    rw [e1, e2]
    have b1 : (fr == 1) = false := beq_eq_false_iff_ne.2 h1
    have b2 : (fr == 4) = false := beq_eq_false_iff_ne.2 (fun h => h2 (.inl h))
    have b3 : (fr == 7) = false := beq_eq_false_iff_ne.2 (fun h => h2 (.inr (.inl h)))
    have b4 : (fr == 13) = false := beq_eq_false_iff_ne.2 (fun h => h2 (.inr (.inr h)))
    clear e1 e2 h1 h2
    go_enter Try.func39, Try.ntmps39
    go_wp2
    go_ret2
    exact ⟨rfl, rfl⟩
set_option maxHeartbeats 8000000 in
theorem may_any (rb : Nat) (st begun fr : Int) (w : World) (hs : st = 1 ∨ st = 2) (hb : begun = 0 ∨ begun = 1 ∨ begun = 2) (c0 : w.cell? ⟨rb, 0, none⟩ = some (.int .i64 st)) (c4 : w.cell? ⟨rb, 4, none⟩ = some (.int .i64 begun)) :
    Calls Try.prog 59 #[.pointer (some ⟨rb, 0, none⟩), .int .i64 fr] w fun e w' => e = .returned (.bool (mayC st begun fr)) ∧ w = w' := by
  by_cases h1 : fr = 0 ∨ fr = 1 ∨ fr = 4 ∨ fr = 7 ∨ fr = 13
  · rcases h1 with rfl | rfl | rfl | rfl | rfl
    all_goals rcases hs with rfl | rfl
    all_goals rcases hb with rfl | rfl | rfl
    all_goals
      go_enter Try.func59, Try.ntmps59
      go_wp2
      go_ret
      exact ⟨rfl, rfl⟩
  by_cases h2 : fr = 2 ∨ fr = 3 ∨ fr = 5 ∨ fr = 6 ∨ fr = 8 ∨ fr = 9
  · have e : mayC st begun fr = false := by
      unfold mayC
      rw [if_neg (by omega), if_neg (by omega), if_neg (by omega), if_neg (by omega)]
      exact decide_eq_false (fun h => h h2)
    rw [e]
    clear e
    rcases h2 with rfl | rfl | rfl | rfl | rfl | rfl
    all_goals
      go_enter Try.func59, Try.ntmps59
      go_wp2
      go_ret
      exact ⟨rfl, rfl⟩
  · have e : mayC st begun fr = true := by
      unfold mayC
      rw [if_neg (by omega), if_neg (by omega), if_neg (by omega), if_neg (by omega)]
      exact decide_eq_true h2
    rw [e]
    have b0 : (fr == 0) = false := beq_eq_false_iff_ne.2 (by omega)
    have b1 : (fr == 1) = false := beq_eq_false_iff_ne.2 (by omega)
    have b2 : (fr == 2) = false := beq_eq_false_iff_ne.2 (by omega)
    have b3 : (fr == 3) = false := beq_eq_false_iff_ne.2 (by omega)
    have b4 : (fr == 4) = false := beq_eq_false_iff_ne.2 (by omega)
    have b5 : (fr == 5) = false := beq_eq_false_iff_ne.2 (by omega)
    have b6 : (fr == 6) = false := beq_eq_false_iff_ne.2 (by omega)
    have b7 : (fr == 7) = false := beq_eq_false_iff_ne.2 (by omega)
    have b8 : (fr == 8) = false := beq_eq_false_iff_ne.2 (by omega)
    have b9 : (fr == 9) = false := beq_eq_false_iff_ne.2 (by omega)
    have b13 : (fr == 13) = false := beq_eq_false_iff_ne.2 (by omega)
    clear e h1 h2
    go_enter Try.func59, Try.ntmps59
    go_wp2
    go_ret
    exact ⟨rfl, rfl⟩
set_option maxHeartbeats 8000000 in
theorem refusal_any (rb : Nat) (st lim begun fr len : Int) (w : World) (hs : st = 1 ∨ st = 2) (hb : begun = 0 ∨ begun = 1 ∨ begun = 2) (c0 : w.cell? ⟨rb, 0, none⟩ = some (.int .i64 st)) (c1 : w.cell? ⟨rb, 1, none⟩ = some (.int .i64 lim)) (c4 : w.cell? ⟨rb, 4, none⟩ = some (.int .i64 begun)) :
    Calls Try.prog 51 #[.pointer (some ⟨rb, 0, none⟩), .int .i64 fr, .int .i64 len] w fun e w' => e = .returned (.int .i64 (refu st lim begun fr len)) ∧ w = w' := by
  have HM := hid (may_any rb st begun fr w hs hb c0 c4)
  have HB := hid (bound_any rb lim fr w c1)
  by_cases h1 : st = 2 ∧ begun = 0 ∧ fr ≠ 4
  · have e : refu st lim begun fr len = 171 := by unfold refu; rw [if_pos h1]
    rw [e]
    obtain ⟨rfl, rfl, h4⟩ := h1
    have b4 : (fr == 4) = false := beq_eq_false_iff_ne.2 h4
    have b4' : (fr != 4) = true := by simp [h4]
    clear e HM HB hs hb
    go_enter Try.func51, Try.ntmps51
    go_wp2
    go_ret
    exact ⟨rfl, rfl⟩
  have HE := hid (show refu st lim begun fr len = if mayC st begun fr = false then 170 else if bnd fr = true ∧ mostOf lim fr < len then 151 else 0 by unfold refu; rw [if_neg h1])
  have key : ∀ R : Int, refu st lim begun fr len = R → (mayC st begun fr = false → R = 170) → (mayC st begun fr = true → bnd fr = true → mostOf lim fr < len → R = 151) → (mayC st begun fr = true → (bnd fr = false ∨ ¬ mostOf lim fr < len) → R = 0) →
      Calls Try.prog 51 #[.pointer (some ⟨rb, 0, none⟩), .int .i64 fr, .int .i64 len] w fun e w' => e = .returned (.int .i64 R) ∧ w = w' := by
    intro R _ k1 k2 k3
    have H1 := hid h1
    have K1 := hid k1
    have K2 := hid k2
    have K3 := hid k3
    clear HE k1 k2 k3 h1
    generalize mostOf lim fr = M at *
    generalize mayC st begun fr = m at *
    generalize hB : bnd fr = bb at *
    clear hB
    have walk : ∀ (x4 : Bool), (fr == 4) = x4 → (fr != 4) = !x4 → (st = 1 ∨ (st = 2 ∧ (begun = 1 ∨ begun = 2)) ∨ (st = 2 ∧ begun = 0 ∧ x4 = true)) →
        Calls Try.prog 51 #[.pointer (some ⟨rb, 0, none⟩), .int .i64 fr, .int .i64 len] w fun e w' => e = .returned (.int .i64 R) ∧ w = w' := by
      intro x4 e4 e4' hc
      cases m
      · have hR := K1.out rfl
        subst hR
        rcases hc with rfl | ⟨rfl, rfl | rfl⟩ | ⟨rfl, rfl, rfl⟩
        all_goals
          go_enter Try.func51, Try.ntmps51
          go_wp2_with (first | (go_at_call 59; refine HM.out.mono ?_; rintro e w1 ⟨rfl, rfl⟩) | (go_at_call 39; refine HB.out.mono ?_; rintro e w1 ⟨rfl, rfl⟩))
          go_ret
          exact ⟨rfl, rfl⟩
      · cases bb
        · have hR := K3.out rfl (.inl rfl)
          subst hR
          rcases hc with rfl | ⟨rfl, rfl | rfl⟩ | ⟨rfl, rfl, rfl⟩
          all_goals
            go_enter Try.func51, Try.ntmps51
            go_wp2_with (first | (go_at_call 59; refine HM.out.mono ?_; rintro e w1 ⟨rfl, rfl⟩) | (go_at_call 39; refine HB.out.mono ?_; rintro e w1 ⟨rfl, rfl⟩))
            go_ret
            exact ⟨rfl, rfl⟩
        · by_cases hM : M < len
          · have hR := K2.out rfl rfl hM
            subst hR
            rcases hc with rfl | ⟨rfl, rfl | rfl⟩ | ⟨rfl, rfl, rfl⟩
            all_goals
              go_enter Try.func51, Try.ntmps51
              go_wp2_with (first | (go_at_call 59; refine HM.out.mono ?_; rintro e w1 ⟨rfl, rfl⟩) | (go_at_call 39; refine HB.out.mono ?_; rintro e w1 ⟨rfl, rfl⟩))
              go_ret
              exact ⟨rfl, rfl⟩
          · have hR := K3.out rfl (.inr hM)
            subst hR
            have hMb : decide (M < len) = false := decide_eq_false hM
            rcases hc with rfl | ⟨rfl, rfl | rfl⟩ | ⟨rfl, rfl, rfl⟩
            all_goals
              go_enter Try.func51, Try.ntmps51
              go_wp2_with (first | (go_at_call 59; refine HM.out.mono ?_; rintro e w1 ⟨rfl, rfl⟩) | (go_at_call 39; refine HB.out.mono ?_; rintro e w1 ⟨rfl, rfl⟩))
              go_ret
              exact ⟨rfl, rfl⟩
    by_cases h4 : fr = 4
    · exact walk true (by simp [h4]) (by simp [h4]) (by have := H1.out; rcases hs with h | h <;> rcases hb with h2 | h2 | h2 <;> simp_all)
    · exact walk false (beq_eq_false_iff_ne.2 h4) (by simp [h4]) (by have := H1.out; rcases hs with h | h <;> rcases hb with h2 | h2 | h2 <;> simp_all)
  refine key _ rfl (fun h => ?_) (fun h h2 h3 => ?_) (fun h h2 => ?_)
  · rw [HE.out, if_pos h]
  · rw [HE.out, if_neg (by simp [h]), if_pos ⟨h2, h3⟩]
  · rw [HE.out, if_neg (by simp [h]), if_neg (by rcases h2 with h2 | h2; simp [h2]; exact fun x => h2 x.2)]
end Go.Proofs.Ytdlefmlienfjhaa
