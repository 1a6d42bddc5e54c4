/-
  A digest under way as plain data, and what prim.start and with do: contracts that the statements' walks use.
-/
import Derived.Test.YtekpepnonhbkcaaRot
import Derived.Deep.RegionWith
import Derived.Deep.RegionHeld3
namespace Go.Proofs.Ytekpepnonhbkcaa
open Go.RowKit
set_option linter.unusedVariables false
set_option maxRecDepth 20000

/-- A digest under way. -/
structure Mx where
  a : Int
  b : Int
  c : Int
abbrev mcells (m : Mx) : Array Value := #[.int .u64 m.a, .int .u64 m.b, .int .u32 m.c]
abbrev mv (m : Mx) : Value := .agg (mcells m)
/-- One byte more. -/
def mixA (m : Mx) (x : Int) : Int := IntKind.u64.wrap (rotA (IntKind.u64.wrap (bits .xor .u64 m.a x * 1099511628211)) + m.b)
def mixB (m : Mx) (a x : Int) : Int := IntKind.u64.wrap (IntKind.u64.wrap (rotB (bits .xor .u64 m.b a) * 2654435761) + x)
def mix1 (m : Mx) (x : Int) : Mx := ⟨mixA m x, mixB m (mixA m x) x, m.c⟩
def mixs (m : Mx) (zs : List Int) : Mx := zs.foldl mix1 m
/-- .. and the count of them. -/
def mix (m : Mx) (zs : List Int) : Mx := { mixs m zs with c := (m.c + zs.length) % 4294967296 }
def st0 : Mx := ⟨11400714819323198485, 14029467366897019727, 0⟩
theorem mixs_c (m : Mx) (zs : List Int) : (mixs m zs).c = m.c := by
  unfold mixs
  induction zs generalizing m with
  | nil => rfl
  | cons x r ih => rw [List.foldl_cons, ih]; rfl
theorem mixs_set (m : Mx) (zs : List Int) (c : Int) : mixs { m with c := c } zs = { mixs m zs with c := c } := by
  unfold mixs
  induction zs generalizing m with
  | nil => rfl
  | cons x r ih => rw [List.foldl_cons, List.foldl_cons, ← ih]; rfl
theorem mixs_append (m : Mx) (xs ys : List Int) : mixs m (xs ++ ys) = mixs (mixs m xs) ys := List.foldl_append
theorem mix_append (m : Mx) (xs ys : List Int) : mix (mix m xs) ys = mix m (xs ++ ys) := by
  unfold mix
  rw [mixs_set, mixs_append]
  simp only [List.length_append, Int.natCast_add]
  congr 1
  omega
theorem mixs_snoc (m : Mx) (zs : List Int) (k : Nat) (h : k < zs.length) : mixs m (zs.take (k + 1)) = mix1 (mixs m (zs.take k)) (zs.getD k 0) := by
  rw [List.take_add_one, List.getElem?_eq_getElem h, mixs_append, List.getD_eq_getElem?_getD, List.getElem?_eq_getElem h]; rfl

/-- A block that holds it. -/
def MBox (w : World) (g : Nat) (m : Mx) : Prop := w.heap[g]? = some (.cells (mcells m) 114 (0, 0))
section
variable {w w' : World} {g : Nat} {m : Mx}
theorem MBox.lt (x : MBox w g m) : g < w.heap.size := lt_of_block x
theorem MBox.c0 (x : MBox w g m) : w.cell? ⟨g, 0, none⟩ = some (.int .u64 m.a) := by rw [cell_of_row w g 0 _ 114 (0, 0) x]; rfl
theorem MBox.c1 (x : MBox w g m) : w.cell? ⟨g, 1, none⟩ = some (.int .u64 m.b) := by rw [cell_of_row w g 1 _ 114 (0, 0) x]; rfl
theorem MBox.c2 (x : MBox w g m) : w.cell? ⟨g, 2, none⟩ = some (.int .u32 m.c) := by rw [cell_of_row w g 2 _ 114 (0, 0) x]; rfl
theorem MBox.free (x : MBox w g m) (j : Nat) : w.frozen? ⟨g, j, none⟩ = false := frozen_of_row w g j _ 114 x
theorem MBox.keep {F : Nat → Prop} (x : MBox w g m) (k : Keep F w w') (f : ¬ F g) : MBox w' g m := (k.block g x.lt f).trans x
theorem MBox.q (x : MBox w g m) (k : Q w w') : MBox w' g m := x.keep (Keep.ofQ (F := fun _ => False) k) id
theorem MBox.a_ (x : MBox w g m) (y : Int) : MBox (w.setCell ⟨g, 0, none⟩ (.int .u64 y)) g { m with a := y } := by
  have := heap_setCell_same w g 0 _ 114 (.int .u64 y) x
  simpa [MBox] using this
theorem MBox.b_ (x : MBox w g m) (y : Int) : MBox (w.setCell ⟨g, 1, none⟩ (.int .u64 y)) g { m with b := y } := by
  have := heap_setCell_same w g 1 _ 114 (.int .u64 y) x
  simpa [MBox] using this
theorem MBox.c_ (x : MBox w g m) (y : Int) : MBox (w.setCell ⟨g, 2, none⟩ (.int .u32 y)) g { m with c := y } := by
  have := heap_setCell_same w g 2 _ 114 (.int .u32 y) x
  simpa [MBox] using this
theorem MBox.drewN (x : MBox w g m) (n : Nat) : MBox (w.drewN n) g m := x
end
theorem mcells_one (m : Mx) : (mcells m).all (·.oneCell') = true := by simp [mcells, Value.oneCell']
theorem mcells_info (m : Mx) : (Try.prog.info? 114).map (·.size) = some (mcells m).size := by
  show (Try.prog.info? 114).map (·.size) = some 3
  kernel_rfl
/-- The end of a call whose result is a digest under way in a block. -/
theorem ret_mx {fn : Func} {p : Tmp} {a : Act} {w : World} {R : Ending → World → Prop} (hr : fn.results = #[.cell p 114]) (hd : a.defers = [])
    (g : Nat) (m : Mx) (hp : a.tmps.getD p undef = .pointer (some ⟨g, 0, none⟩)) (hb : MBox w g m) (hR : R (.returned (mv m)) w) : bodyPost Try.prog fn R .ret a w :=
  ⟨hd, _, results_cell_row hr _ w g 114 _ (0, 0) _ hp hb Try.underlying114 rfl (by kernel_rfl), hR⟩

set_option maxHeartbeats 1000000 in
theorem start_any (w : World) : Calls Try.prog 83 #[] w fun e w' => e = .returned (mv st0) ∧ Q w w' := by
  go_enter Try.func83, Try.ntmps83
  go_wp2
  refine ret_mx rfl rfl w.heap.size st0 rfl (heap_alloc_new w _) ⟨rfl, (Q.refl w).alloc _⟩

set_option maxHeartbeats 4000000 in
theorem with_any (m : Mx) (a : Option Addr) (n c : Nat) (zs : List Int) (w : World) (hl : zs.length = n) (hn : n ≤ 140737488355328) (hz : ∀ y ∈ zs, 0 ≤ y ∧ y < 256) (hseg : Seg w a zs) :
    Calls Try.prog 84 #[mv m, .slice a n c] w fun e w' => e = .returned (mv (mix m zs)) ∧ Q w w' := by
  have HL := hid hl
  have HS := hid hseg
  have HZ := hid hz
  clear hl hseg hz
  go_enter Try.func84, Try.ntmps84
  go_wp2
  generalize hw1 : World.alloc (World.alloc w _) _ = w1
  have q1 : Q w w1 := by rw [← hw1]; exact ((Q.refl w).alloc _).alloc _
  have b1 : MBox w1 w.heap.size m := by rw [← hw1]; exact heap_alloc2_old w _ _
  have z1 : MBox w1 (w.heap.size + 1) ⟨0, 0, 0⟩ := by rw [← hw1]; exact heap_alloc2_new w _ _
  clear hw1
  have Q1 := hid q1
  have B1 := hid b1
  have Z1 := hid z1
  clear q1 b1 z1
  generalize hg : w.heap.size = g at *
  go_loopw [9] (fun i wr => ∃ k : Nat, k ≤ n ∧ i = .int .i64 k ∧ Keep (fun i => i = g) w1 wr ∧ MBox wr g (mixs m (zs.take k))) (fun i _ => ((n : Int) - intOf i).toNat)
  case atStart => exact ⟨0, Nat.zero_le _, rfl, Keep.refl _ _, B1.out⟩
  case round =>
    obtain ⟨k, hk, rfl, hkp, hb⟩ := hrel
    by_cases hkn : k < n
    · have hki : (k : Int) < (n : Int) := by omega
      obtain ⟨p, o, rfl, hc⟩ := HS.out (by intro e; have := HL.out; simp [e] at this; omega)
      have hlk : k < zs.length := by rw [HL.out]; exact hkn
      have hck := hc k hlk
      have hp := lt_of_cell hck
      have hck2 : wr.cell? ⟨p, o + k, none⟩ = some (.int .u8 (zs.getD k 0)) := hkp.cell (by rw [Q1.out.cell hp]; exact hck) (by omega)
      have hzk := HZ.out (zs.getD k 0) (by rw [List.getD_eq_getElem?_getD, List.getElem?_eq_getElem hlk]; exact List.getElem_mem hlk)
      have HM := hid (mixs_snoc m zs k hlk)
      have c0 := hb.c0
      have c1 := hb.c1
      have f0 := hb.free 0
      have f1 := hb.free 1
      have KP := hid hkp
      have HB := hid hb
      clear hc hck hp hlk hkp hb
      generalize zs.getD k 0 = x at *
      generalize mixs m (zs.take k) = m1 at *
      have hwx : IntKind.u64.wrap x = x := by rw [IntKind.wrap_u64]; omega
      have HX := hid hzk
      clear hzk
      go_wp2_with fail
      go_region_with (go_at_call 89; refine (rotl_23 _ _).mono ?_; rintro e w' ⟨rfl, rfl⟩)
      all_goals (
        go_wp2_with (go_at_call 89; refine (rotl_41 _ _).mono ?_; rintro e w' ⟨rfl, rfl⟩)
        go_roundw
        case rel =>
          refine ⟨k + 1, by omega, by go_num, ?_, ?_⟩
          · exact (((KP.out.setCell _ _ _ (.inl rfl)).drewN _).setCell _ _ _ (.inl rfl))
          · rw [HM.out]; exact ((HB.out.a_ _).drewN 1).b_ _
        case measure => simp [intOf]; omega)
    · obtain rfl : k = n := by omega
      have hki : ¬ (k : Int) < (k : Int) := by omega
      rw [List.take_of_length_le (by have := HL.out; omega)] at hb
      have c0 := hb.c0
      have c1 := hb.c1
      have c2 := hb.c2
      have f2 := hb.free 2
      have hsz := hkp.size
      have hz1 : MBox wr (g + 1) ⟨0, 0, 0⟩ := Z1.out.keep hkp (by omega)
      have HZ1 := hid hz1
      have HB := hid hb
      have KP := hid hkp
      have hcc := mixs_c m zs
      rw [hcc] at c2
      clear hz1 hb hkp hcc
      have d0 := HZ1.out.c0
      have d1 := HZ1.out.c1
      have d2 := HZ1.out.c2
      have e0 := HZ1.out.free 0
      have e1 := HZ1.out.free 1
      have e2 := HZ1.out.free 2
      go_wp2
      have hm : mix m zs = ⟨(mixs m zs).a, (mixs m zs).b, (m.c + (k : Int)) % 4294967296⟩ := by
        unfold mix; rw [HL.out]
      rw [hm]
      refine ret_mx rfl rfl (g + 1) ⟨(mixs m zs).a, (mixs m zs).b, (m.c + (k : Int)) % 4294967296⟩ rfl ?_ ⟨rfl, ?_⟩
      · exact (((HZ1.out.keep ((Keep.refl (fun i => i = g) wr).setCell _ _ _ (.inl rfl)) (by omega)).a_ _).b_ _).c_ _
      · have kk : Keep (fun i => g ≤ i) w1 wr := KP.out.mono (fun i _ e => by omega)
        have k2 := (((kk.setCell g 2 (.int .u32 ((m.c + (k : Int)) % 4294967296)) (.inl (Nat.le_refl _))).setCell (g + 1) 0 (.int .u64 (mixs m zs).a) (.inl (by omega))).setCell (g + 1) 1 (.int .u64 (mixs m zs).b) (.inl (by omega))).setCell (g + 1) 2 (.int .u32 ((m.c + (k : Int)) % 4294967296)) (.inl (by omega))
        exact k2.below Q1.out Q1.out.size (fun i e => by omega)
end Go.Proofs.Ytekpepnonhbkcaa
