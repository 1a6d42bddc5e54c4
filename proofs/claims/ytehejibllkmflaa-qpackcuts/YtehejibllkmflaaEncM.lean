/-
  Bits as numbers: joined and parted; what a row of bytes with room takes. Nothing is proved of a statement here.
-/
import Derived.Test.YtehejibllkmflaaSiz
namespace Go.Proofs.Ytehejibllkmflaa
open Go.RowKit
set_option linter.unusedVariables false
set_option maxRecDepth 20000

theorem pow_cast (k : Nat) : ((2 ^ k : Nat) : Int) = (2 : Int) ^ k := by simp
theorem bn_add (b : Nat) (n : Int) : ∀ a, bn (a + b) n = bn a (n / 2 ^ b) ++ bn b n := by
  intro a
  induction a with
  | zero => simp [bn]
  | succ a ih =>
    rw [show a + 1 + b = (a + b) + 1 by omega, bn, bn, ih, List.cons_append]
    congr 2
    rw [Int.ediv_ediv_of_nonneg (Int.le_of_lt (two_pos b)), ← Int.pow_add, Nat.add_comm]
theorem bn_join (h l : Nat) (r c : Int) (hc0 : 0 ≤ c) (hc1 : c < 2 ^ l) : bn (h + l) (r * 2 ^ l + c) = bn h r ++ bn l c := by
  have hp := two_pos l
  rw [bn_add, show (r * 2 ^ l + c) / 2 ^ l = r by rw [Int.add_comm, Int.add_mul_ediv_right _ _ (by omega), Int.ediv_eq_zero_of_lt hc0 hc1]; omega]
  congr 1
  rw [← bn_mod l l (r * 2 ^ l + c) (Nat.le_refl _), Int.add_comm, Int.add_mul_emod_self_right, Int.emod_eq_of_lt hc0 hc1]
theorem hc_ok : (List.range 256).all (fun (x : Nat) => decide (0 ≤ hc (x : Int) ∧ hc (x : Int) < 2 ^ hl (x : Int))) = true := by decide +kernel
theorem hc_bd {x : Nat} (hx : x < 256) : 0 ≤ hc (x : Int) ∧ hc (x : Int) < 2 ^ hl (x : Int) := of_decide_eq_true (List.all_eq_true.1 hc_ok x (List.mem_range.2 hx))
theorem hB_take {zs : List Int} {k : Nat} {y : Nat} (h : zs[k]? = some (y : Int)) : hB (zs.take (k + 1)) = hB (zs.take k) ++ bn (hl (y : Int)) (hc (y : Int)) := by
  rw [List.take_add_one, h, Option.toList_some, hB_app]
  simp [hB]
theorem v2_ones (k : Nat) : v2 0 (List.replicate k 1) = 2 ^ k - 1 := by
  induction k with
  | zero => rfl
  | succ k ih =>
    rw [List.replicate_succ, v2, v2_split, ih, List.length_replicate, Int.pow_succ]
    omega
theorem bn_ones (k : Nat) : bn k (2 ^ k - 1) = List.replicate k 1 := by
  have h := bn_v2 (List.replicate k 1) (ones_bits k)
  rw [List.length_replicate, v2_ones] at h
  exact h

/-- What stands between two codes: the whole bytes, and the bits behind them. -/
structure EnS (bs out : List Int) (h r : Nat) : Prop where
  e : ub out ++ bn h (r : Int) = bs
  z : ∀ y ∈ out, 0 ≤ y ∧ y < 256
  r : r < 2 ^ h
theorem EnS.len {bs out : List Int} {h r : Nat} (k : EnS bs out h r) : 8 * out.length + h = bs.length := by
  rw [← k.e, List.length_append, ub_len, bn_length]
/-- One code more. -/
theorem EnS.code {bs out : List Int} {h r l c : Nat} (k : EnS bs out h r) (hc : c < 2 ^ l) : EnS (bs ++ bn l (c : Int)) out (h + l) (r * 2 ^ l + c) := by
  refine ⟨?_, k.z, ?_⟩
  · have e := bn_join h l (r : Int) (c : Int) (by omega) (by rw [← pow_cast]; omega)
    have e2 : ((r * 2 ^ l + c : Nat) : Int) = (r : Int) * 2 ^ l + (c : Int) := by rw [Int.natCast_add, Int.natCast_mul, pow_cast]
    rw [e2, e, ← List.append_assoc, k.e]
  · have hr := k.r
    have h1 : (r + 1) * 2 ^ l ≤ 2 ^ h * 2 ^ l := Nat.mul_le_mul_right _ hr
    rw [Nat.add_mul, Nat.one_mul, ← Nat.pow_add] at h1
    omega
/-- One byte out. -/
theorem bn8_mod (d : Nat) : bn 8 ((d % 256 : Nat) : Int) = bn 8 (d : Int) := by
  have h := bn_mod 8 8 (d : Int) (Nat.le_refl _)
  rw [← h]
  congr 1
/-- The end. -/
theorem EnS.fill {bs out : List Int} {h r : Nat} (k : EnS bs out h r) (h0 : 0 < h) (h8 : h < 8) : pk bs = out ++ [((r * 2 ^ (8 - h) + (2 ^ (8 - h) - 1) : Nat) : Int)] := by
  have hp := Nat.two_pow_pos (8 - h)
  have k2 := k.code (l := 8 - h) (c := 2 ^ (8 - h) - 1) (by omega)
  rw [show h + (8 - h) = 8 by omega] at k2
  have e1 : ((2 ^ (8 - h) - 1 : Nat) : Int) = 2 ^ (8 - h) - 1 := by have := pow_cast (8 - h); omega
  rw [e1, bn_ones] at k2
  refine pk_ub (r := 8 - h) ?_ (by omega) (fun y hy => ?_)
  · rw [ub_snoc, ← k2.e]
  · rcases List.mem_append.1 hy with hy | hy
    · exact k.z y hy
    · rw [List.mem_singleton.1 hy]; have := k2.r; omega
theorem EnS.whole {bs out : List Int} {r : Nat} (k : EnS bs out 0 r) : pk bs = out := by
  refine pk_ub (r := 0) ?_ (by omega) k.z
  rw [← k.e]
  simp [bn]

/-- The same while bytes go out: the bits are not cut off yet. -/
def EnT (bs out : List Int) (h r : Nat) : Prop := ub out ++ bn h (r : Int) = bs ∧ ∀ y ∈ out, 0 ≤ y ∧ y < 256
theorem EnS.t {bs out : List Int} {h r : Nat} (k : EnS bs out h r) : EnT bs out h r := ⟨k.e, k.z⟩
theorem EnT.out {bs out : List Int} {h r : Nat} (k : EnT bs out (h + 8) r) : EnT bs (out ++ [((r / 2 ^ h % 256 : Nat) : Int)]) h r := by
  refine ⟨?_, fun y hy => ?_⟩
  · have e := bn_add h (r : Int) 8
    have e2 : (r : Int) / 2 ^ h = ((r / 2 ^ h : Nat) : Int) := by rw [← pow_cast]; exact (Int.natCast_ediv _ _).symm
    rw [ub_snoc, bn8_mod, List.append_assoc, ← e2, ← e, Nat.add_comm 8 h]
    exact k.1
  · rcases List.mem_append.1 hy with hy | hy
    · exact k.2 y hy
    · rw [List.mem_singleton.1 hy]; omega
theorem EnT.cut {bs out : List Int} {h r : Nat} (k : EnT bs out h r) : EnS bs out h (r % 2 ^ h) := by
  refine ⟨?_, k.2, Nat.mod_lt _ (Nat.two_pow_pos h)⟩
  have e3 : ((r % 2 ^ h : Nat) : Int) = (r : Int) % 2 ^ h := by rw [← pow_cast]; exact Int.natCast_emod _ _
  rw [e3, bn_mod h h _ (Nat.le_refl _)]
  exact k.1
theorem EnT.len {bs out : List Int} {h r : Nat} (k : EnT bs out h r) : 8 * out.length + h = bs.length := by
  rw [← k.1, List.length_append, ub_len, bn_length]

/-- append of one byte where there is room. -/
theorem row_in {w : World} {d : Sv} {zs : List Int} (v : Int) (h : Row w d zs) (hr : d.n + 1 ≤ d.c) :
    ∃ w', (Builtin.append_ #[30, 30] 30 #[.slice d.a d.n d.c, .slice (some ⟨w.heap.size, 0, none⟩) 1 1]).run Try.prog (w.alloc (.cells #[.int .u8 v] 5)) = .ok (.slice d.a (d.n + 1) d.c) w' ∧ Row w' ⟨d.a, d.n + 1, d.c⟩ (zs ++ [v]) ∧ Keep (fun b => blk d.a = some b) w w' := by
  obtain ⟨i0, hi, hz0, hz1, hz2⟩ := info_parts info5
  have hq : Q w (w.alloc (.cells #[.int .u8 v] 5)) := (Q.refl w).alloc _
  have h' := Sub.q h hq
  have hg : (w.alloc (.cells #[.int .u8 v] 5)).heap[w.heap.size]? = some (.cells #[.int .u8 v] 5 (0, 0)) := heap_alloc_new w _
  have hsrc : ∀ j u, [Value.int .u8 v][j]? = some u → (w.alloc (.cells #[.int .u8 v] 5)).cell? ((⟨w.heap.size, 0, none⟩ : Addr).add j) = some u := by
    intro j u hj
    rw [addr_add, cell_of_row _ _ _ _ 5 (0, 0) hg, Nat.zero_add]
    simpa using hj
  have hs : Src Try.prog i0.size 30 (.slice (some ⟨w.heap.size, 0, none⟩) 1 1) 1 [Value.int .u8 v] (w.alloc (.cells #[.int .u8 v] 5)) := by
    rw [hz1]
    exact Src.ofSlice _ Try.underlying30 ⟨w.heap.size, 0, none⟩ 1 1 [Value.int .u8 v] (by simp) hsrc (by intro u hu; rw [List.mem_singleton.1 hu]; rfl)
  rcases h'.2 with ⟨h1, h2, h3⟩ | ⟨g, off, cur, ha, hgb, h1, h2, h3, h4⟩
  · omega
  · have hrun := run_append_in (P := Try.prog) (w.alloc (.cells #[.int .u8 v] 5)) 30 30 30 5 i0 Try.underlying30 hi g off d.n d.c _ 1 _ hs cur hgb hr (by rw [hz1]; simp; omega)
    rw [ha]
    refine ⟨_, hrun, ?_, (Keep.ofQ hq).trans ((keep_row hgb _).1.atRow)⟩
    have hm := sub_room (m := 1) (size := 1) h'.1 (news := [Value.int .u8 v]) (by simp) hgb hr h2 h3 h4
    rw [hz1]
    show Sub _ _ _ _ _ _ (u8s _)
    rw [show u8s (zs ++ [v]) = u8s zs ++ [Value.int .u8 v] from List.map_append]
    exact hm
end Go.Proofs.Ytehejibllkmflaa
