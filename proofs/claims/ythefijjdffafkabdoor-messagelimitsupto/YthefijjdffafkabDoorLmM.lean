/-
  The limits of a list: plain mathematics; a row of fields appended to another; Sizes.
-/
import Derived.Test.YthefijjdffafkabDoorRnZ
import Derived.Test.YthefijjdffafkabDoorDoD
import Derived.Deep.AppendSrc
namespace Go.Proofs.YthefijjdffafkabDoor
open Go.RowKit
set_option linter.unusedVariables false
set_option maxRecDepth 20000

/-- How many letters a list has. -/
def tot (l : List Fd) : Nat := (l.map fun p => p.1.size + p.2.size).sum
theorem tot_app (a b : List Fd) : tot (a ++ b) = tot a + tot b := by unfold tot; rw [List.map_append, List.sum_append]
theorem tot_snoc {l : List Fd} {k : Nat} {p : Fd} (h : l[k]? = some p) : tot (l.take (k + 1)) = tot (l.take k) + (p.1.size + p.2.size) := by rw [take_snoc h, tot_app]; simp [tot]
theorem tot_take (l : List Fd) (k : Nat) : tot (l.take k) ≤ tot l := by
  conv => rhs; rw [← List.take_append_drop k l]
  rw [tot_app]; exact Nat.le_add_right _ _
theorem wrap_id {n : Int} (h0 : -9223372036854775808 ≤ n) (h1 : n < 9223372036854775808) : RowKit.wrap64 n = n := by unfold RowKit.wrap64; omega
theorem sizS_tot (l : List Fd) (h : tot l ≤ 4611686018427387904) : sizS l = (tot l : Int) := by
  have key : ∀ (l : List Fd) (a : Int), 0 ≤ a → a + (tot l : Int) ≤ 4611686018427387904 → l.foldl (fun n f => RowKit.wrap64 (n + ((f.1.size : Int) + (f.2.size : Int)))) a = a + (tot l : Int) := by
    intro l
    induction l with
    | nil => intro a _ _; simp [tot]
    | cons p r ih =>
      intro a h0 h1
      have e : tot (p :: r) = (p.1.size + p.2.size) + tot r := by simp [tot]
      rw [e] at h1 ⊢
      rw [List.foldl_cons, wrap_id (by omega) (by omega), ih _ (by omega) (by omega)]
      omega
  have := key l 0 (by omega) (by omega)
  unfold sizS
  rw [this]; omega
theorem chE_free {l : List Fd} {c s c' s' : Int} (h : muc l c s = false) (h' : muc l c' s' = false) : chE l c s = chE l c' s' := by unfold chE; rw [h, h']
theorem chE_muc {l : List Fd} {c s : Int} (h : muc l c s = true) : chE l c s = 185 := by unfold chE; rw [h]; rfl
theorem tot_line : tot lineL = 42 := by decide +kernel
theorem bd_line : BdF lineL := by
  intro p hp
  simp [lineL] at hp
  rcases hp with rfl | rfl | rfl | rfl <;> decide
theorem bd_app {a b : List Fd} (ha : BdF a) (hb : BdF b) : BdF (a ++ b) := fun p hp => by
  rcases List.mem_append.1 hp with h | h
  · exact ha p h
  · exact hb p h
theorem RowG.fin {w : World} {x : Sv} {l : List Fd} (h : RowG w x l) (hc : x.n ≤ x.c) (hb : l.length ≤ 4398046511104) (hd : BdF l) : Fin w x l := ⟨h.seg, h.len, hc, hb, hd⟩
theorem RowG.cap {w : World} {x : Sv} {l : List Fd} (h : RowG w x l) : x.n ≤ x.c := by
  rcases h.2 with ⟨_, h1, h2⟩ | ⟨_, _, _, _, _, h1, _⟩
  · omega
  · exact h1
/-- A row of fields behind another. -/
theorem rowG_app {w : World} {d x : Sv} {l r : List Fd} (h : RowG w d l) (hx : RowG w x r) (hb : d.n + x.n ≤ 4398046511104) :
    ∃ d' w', (Builtin.append_ #[22, 22] 22 #[.slice d.a d.n d.c, .slice x.a x.n x.c]).run Tryd.prog w = .ok (.slice d'.a d'.n d'.c) w' ∧ RowG w' d' (l ++ r) ∧ Keep (fun b => blk d.a = some b) w w' ∧ (∀ b, blk d'.a = some b → blk d.a = some b ∨ w.heap.size ≤ b) := by
  obtain ⟨i0, hi, hz0, hz1, hz2⟩ := info_parts info37
  have hmul : (d.n + x.n + (d.n + x.n) / 4 + 192) * 32 ≤ 281474976710656 := by omega
  have hsrc : Src Tryd.prog 2 22 (.slice x.a x.n x.c) x.n (r.flatMap fcl) w := by
    rcases hx.2 with ⟨h1, h2, h3⟩ | ⟨g, off, cur, h1, hg, _, _, _, h4⟩
    · have hr : r.flatMap fcl = [] := List.eq_nil_of_length_eq_zero (by rw [hx.1, h2])
      rw [h1, h2, h3, hr]
      exact Src.ofNil w Tryd.underlying22 0
    · rw [h1]
      refine Src.ofSlice _ Tryd.underlying22 ⟨g, off, none⟩ x.n x.c _ hx.1 (fun j u hj => ?_) (fcl_one r)
      have hj' : j < x.n * 2 := by
        rcases Nat.lt_or_ge j (x.n * 2) with hh | hh
        · exact hh
        · rw [List.getElem?_eq_none (by rw [hx.1]; exact hh)] at hj; cases hj
      rw [addr_add, cell_of_row w g _ cur _ (0, 0) hg, h4 j hj', hj]
  obtain ⟨a', cap', w', hr, h1, h2, h3⟩ := sub_append (P := Tryd.prog) (ty := 22) Tryd.underlying22 hi hz0 hz1 hz2 rfl h hsrc (by unfold maxLen; omega) hmul
  refine ⟨⟨a', d.n + x.n, cap'⟩, w', hr, ?_, h2, fun b hb => ?_⟩
  · show Sub _ _ _ _ _ _ (List.flatMap fcl _)
    rw [List.flatMap_append]; exact h1
  · rcases h3 with h | h
    · exact .inl (by rw [← h]; exact hb)
    · have hb' : blk a' = some b := hb
      rw [h] at hb'
      cases hb'
      exact .inr (Nat.le_refl _)
theorem size_any (p : Fd) (w : World) (h : p.1.size + p.2.size ≤ 4611686018427387904) : Calls Tryd.prog 10 #[.agg #[.string p.1, .string p.2]] w fun e w' => e = .returned (.int .i64 ((32 : Int) + (p.1.size : Int) + (p.2.size : Int))) ∧ Q w w' := by
  obtain ⟨a, b⟩ := p
  dsimp only at h
  have HQ := hid ((Q.refl w).alloc (.cells #[.string a, .string b] 36))
  have h1 : (32 : Int) + (a.size : Int) < 9223372036854775808 := by omega
  have h2 : (32 : Int) + (a.size : Int) + (b.size : Int) < 9223372036854775808 := by omega
  have h3 : -9223372036854775808 ≤ (32 : Int) + (a.size : Int) := by omega
  have h4 : -9223372036854775808 ≤ (32 : Int) + (a.size : Int) + (b.size : Int) := by omega
  clear h
  go_enter Tryd.func10, Tryd.ntmps10
  go_wp2
  go_ret
  exact ⟨rfl, HQ.out⟩
set_option maxHeartbeats 8000000 in
theorem sizes_any (x : Sv) (l : List Fd) (w : World) (h : Fin w x l) (ht : tot l + 32 * l.length ≤ 4611686018427387904) : Calls Tryd.prog 4 #[.slice x.a x.n x.c] w fun e w' => e = .returned (.int .i64 ((tot l : Int) + 32 * (l.length : Int))) ∧ Q w w' := by
  obtain ⟨xa, xn, xc⟩ := x
  have hl := h.len
  dsimp only at hl
  subst hl
  have HX := hid h
  have HT := hid ht
  clear h ht
  go_enter Tryd.func4, Tryd.ntmps4
  go_wp2_with fail
  go_loopw [3, 4] (fun n i wr => ∃ k : Nat, k ≤ l.length ∧ i = .int .i64 (k : Int) ∧ n = .int .i64 ((tot (l.take k) : Int) + 32 * (k : Int)) ∧ Q w wr) (fun _ i _ => l.length - (intOf i).toNat)
  case atStart => exact ⟨0, by omega, rfl, rfl, Q.refl w⟩
  case round =>
    obtain ⟨k, hk, rfl, rfl, hq⟩ := hrel
    have HQ := hid hq
    by_cases hlt : k < l.length
    · obtain ⟨g, off, ⟨p1, p2⟩, ha, hp, c0, c1⟩ := (HX.out.q hq).s.at hlt
      dsimp only at ha
      subst ha
      dsimp only at c0 c1
      have hki : (k : Int) < (l.length : Int) := by omega
      have hk0 : (0 : Int) ≤ (k : Int) := by omega
      have hkb : (k : Int) < 8796093022208 := by have := HX.out.b; omega
      have hts := tot_snoc hp
      have htk := tot_take l (k + 1)
      have HTT := hid HT.out
      have HSZ := hid (size_any (p1, p2) wr (by have := HT.out; dsimp only at hts ⊢; omega))
      have HN := hid (show (tot (l.take (k + 1)) : Int) + 32 * ((k + 1 : Nat) : Int) = ((tot (l.take k) : Int) + 32 * (k : Int)) + ((32 : Int) + (p1.size : Int) + (p2.size : Int)) from by dsimp only at hts; omega)
      have hb1 : ((tot (l.take k) : Int) + 32 * (k : Int)) + ((32 : Int) + (p1.size : Int) + (p2.size : Int)) < 9223372036854775808 := by have := HT.out; dsimp only at hts; omega
      have hb0 : (0 : Int) ≤ (tot (l.take k) : Int) + 32 * (k : Int) := by omega
      have hb2 : (0 : Int) ≤ (32 : Int) + (p1.size : Int) + (p2.size : Int) := by omega
      clear hq hp hts htk
      dsimp only at HSZ
      generalize (tot (l.take k) : Int) + 32 * (k : Int) = T at *
      generalize (32 : Int) + (p1.size : Int) + (p2.size : Int) = z at *
      go_wp2_with (go_at_call 10; refine HSZ.out.mono ?_; rintro e w1 ⟨rfl, q1⟩; have Q1 := hid (HQ.out.trans q1); clear q1)
      go_roundw
      case rel => exact ⟨k + 1, by omega, by go_num, by first | (rw [HN.out]; done) | (rw [HN.out]; go_num), Q1.out⟩
      case measure => simp [intOf]; omega
    · have hki : ¬ (k : Int) < (l.length : Int) := by omega
      have HE := hid (show (tot (l.take k) : Int) + 32 * (k : Int) = (tot l : Int) + 32 * (l.length : Int) from by rw [List.take_of_length_le (by omega)]; omega)
      have hbx : k = l.length := by omega
      clear hq
      go_wp2
      go_ret
      exact ⟨by rw [← HE.out]; rfl, HQ.out⟩
end Go.Proofs.YthefijjdffafkabDoor
