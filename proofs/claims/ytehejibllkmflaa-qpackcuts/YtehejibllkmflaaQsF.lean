/-
  staticField and staticName: contracts that the statements' walks use.
-/
import Derived.Test.YtehejibllkmflaaQsS
namespace Go.Proofs.Ytehejibllkmflaa
open Go.RowKit Go.Shelf
attribute [local go_sem] Oper.semAt_some
set_option linter.unusedVariables false
set_option linter.unusedSimpArgs false
set_option maxRecDepth 100000

/-- The first static entry of which so much holds. -/
def fndE (m : Nat → Bool) : Ending := .returned (.tuple #[.int .i64 ((((List.range 40).find? m).getD 0 : Nat) : Int), .bool ((List.range 40).find? m).isSome])
theorem fnd_none {m : Nat → Bool} (h : ∀ x ∈ upto k40 40, m x.1 = false) : (List.range 40).find? m = none := by
  rw [List.find?_eq_none]
  intro k hk
  have := h (k40 k) (by unfold upto; exact List.mem_map.2 ⟨k, hk, rfl⟩)
  rw [k40_val (List.mem_range.1 hk)] at this
  simp [this]
theorem fnd_some {m : Nat → Bool} {k : Nat} (hk : k < 40) {pr : List K40} {x : K40} (he : upto k40 (k + 1) = pr ++ [x]) (h : ∀ y ∈ pr, m y.1 = false) (hx : m x.1 = true) : (List.range 40).find? m = some k ∧ x.1 = k := by
  rw [upto_succ] at he
  obtain ⟨e1, e2⟩ := List.append_inj' he rfl
  have e3 : k40 k = x := by simpa using e2
  have hxk : x.1 = k := by rw [← e3]; exact k40_val hk
  refine ⟨?_, hxk⟩
  rw [List.find?_eq_some_iff_getElem]
  refine ⟨by rw [← hxk]; exact hx, k, by simpa using hk, by simp, fun j hj => ?_⟩
  have := h (k40 j) (by rw [← e1]; unfold upto; exact List.mem_map.2 ⟨j, List.mem_range.2 hj, rfl⟩)
  rw [k40_val (by omega)] at this
  simp [this]
set_option maxHeartbeats 4000000 in
theorem sfield_w (s t : ByteArray) (w : World) :
    CallsIn Fence.wide 6 Try.prog 46 #[.agg #[.string s, .string t]] w fun e w' => e = fndE (fun k => (strOfNums (stN k)).toList == s.toList && (strOfNums (stV k)).toList == t.toList) ∧ Q w w' := by
  obtain ⟨m, hm⟩ : ∃ m : Nat → Bool, (fun k => (strOfNums (stN k)).toList == s.toList && (strOfNums (stV k)).toList == t.toList) = m := ⟨_, rfl⟩
  have HMM := hid hm
  rw [hm]
  clear hm
  refine callsIn_of_wp_marks Try.func46 rfl trivial ?_ rfl
  simp only [Try.ntmps46, List.size_toArray, List.length_cons, List.length_nil, Nat.reduceAdd, Nat.reduceSub, Array.replicate_succ, Array.replicate_zero, List.push_toArray, List.append_toArray, List.nil_append, List.cons_append]
  gi_wp2_with (first | (refine ⟨trivial, ?_⟩; gi_at_call 11; refine (entries_in _ _).mono ?_; rintro e w' ⟨rfl, rfl⟩) | (gi_at_call 11; refine (entries_in _ _).mono ?_; rintro e w' ⟨rfl, rfl⟩))
  generalize hW0 : World.alloc (World.alloc (World.alloc w _) _) _ = W0
  have hsz : W0.heap.size = w.heap.size + 3 := by rw [← hW0]; simp
  have hB0 : Below w.heap.size w W0 := by rw [← hW0]; exact (((Below.refl _ w).alloc (Nat.le_refl _) _).alloc (by simp) _).alloc (by simp; omega) _
  have hS0 : SI w #[.string s, .string t] #[.int .i64 0] #[.bool false] 23 3 4 W0 := by
    rw [← hW0]
    have e1 := heap_alloc_new w (.cells #[.string s, .string t] 23)
    have e2 := heap_alloc_new (w.alloc (.cells #[.string s, .string t] 23)) (.cells #[.int .i64 0] 3)
    have e3 := heap_alloc_new ((w.alloc (.cells #[.string s, .string t] 23)).alloc (.cells #[.int .i64 0] 3)) (.cells #[.bool false] 4)
    rw [World.size_alloc] at e2
    rw [World.size_alloc, World.size_alloc] at e3
    exact ⟨(Below.block (((Q.refl (w.alloc (.cells #[.string s, .string t] 23))).alloc _).alloc _) _ (by simp)).trans e1, (Below.block ((Q.refl ((w.alloc (.cells #[.string s, .string t] 23)).alloc (.cells #[.int .i64 0] 3))).alloc _) _ (by simp)).trans e2, e3⟩
  clear hW0
  refine wpIn_rangeFunc_ownH (F := Fence.wide) (n := 6) rfl (by omega) (gf := 23) (lb := #[]) rfl trivial (enters_of Try.func23 (by kernel_rfl) rfl)
    (iter_stops 5 (by omega) w.heap.size W0) belowK_t (belowK_b (by omega)) (Below.refl _ _) (fun _ => rfl)
    (fun pre W => (SI w #[.string s, .string t] #[.int .i64 0] #[.bool false] 23 3 4 W ∧ ∀ x ∈ pre, m x.1 = false) ∧ Below w.heap.size w W)
    (fun c pre W => (c = .ret ∧ ∃ pr x, pre = pr ++ [x] ∧ (∀ y ∈ pr, m y.1 = false) ∧ m x.1 = true ∧ SI w #[.string s, .string t] #[.int .i64 (x.1 : Int)] #[.bool true] 23 3 4 W) ∧ Below w.heap.size w W)
    (OwnFrom.and (fun s A B row hs hg hr => ⟨hs.1.kept hg (fun r e => (hr r e).2), hs.2⟩) (ownFrom_below (Nat.le_refl _) (by omega)))
    (fun c => OwnFrom.and (fun s A B row hs hg hr => by obtain ⟨h1, pr, x, h2, h3, h4, h5⟩ := hs; exact ⟨h1, pr, x, h2, h3, h4, h5.kept hg (fun r e => (hr r e).2)⟩) (ownFrom_below (Nat.le_refl _) (by omega)))
    ⟨⟨hS0, fun x hx => by cases hx⟩, hB0⟩
    (fun x a' W => ∃ Bx, w.heap.size + 3 ≤ Bx ∧ W.heap[Bx]? = some (.cells #[.string (strOfNums (stN x.1)), .string (strOfNums (stV x.1))] 23 (0, 0)) ∧ a' = { tmps := #[.agg #[.string s, .string t], .pointer (some ⟨w.heap.size, 0, none⟩), .pointer (some ⟨w.heap.size + 1, 0, none⟩), .pointer (some ⟨w.heap.size + 1 + 1, 0, none⟩), .int .i64 (x.1 : Int), .pointer (some ⟨Bx, 0, none⟩), .func (.func 23) #[] #[], .int .i64 (x.1 : Int), fldV (stN x.1) (stV x.1), undef, undef, undef, undef], defers := [] })
    (fun x a' s A B row hs hg hr => by obtain ⟨Bx, h1, h2, h3⟩ := hs; exact ⟨Bx, h1, row_kept h2 hg (fun r e => (hr r e).2), h3⟩) ?assign ?body ?done ?stop
  case assign =>
    rintro l pre x W K hi hK
    gi_wp2
    exact hK _ _ ((KeepsOthers.alloc _ _).from _) ((Below.refl _ W).alloc hi.2.size _) ⟨⟨hi.1.1.q ((Q.refl W).alloc _), hi.1.2⟩, hi.2.alloc hi.2.size _⟩ ⟨W.heap.size, by have := lt_of_block hi.1.1.b3; omega, heap_alloc_new W _, rfl⟩
  case body =>
    rintro l pre x a' W hl hr ⟨⟨hS, hno⟩, hB⟩ ⟨Bx, hBx, bX, rfl⟩ _
    have hc1 : W.cell? ⟨w.heap.size, 0, none⟩ = some (.string s) := by rw [cell_of_row W _ 0 _ 23 (0, 0) hS.b1]; rfl
    have hc2 : W.cell? ⟨w.heap.size, 1, none⟩ = some (.string t) := by rw [cell_of_row W _ 1 _ 23 (0, 0) hS.b1]; rfl
    have hx0 : W.cell? ⟨Bx, 0, none⟩ = some (.string (strOfNums (stN x.1))) := by rw [cell_of_row W _ 0 _ 23 (0, 0) bX]; rfl
    have hx1 : W.cell? ⟨Bx, 1, none⟩ = some (.string (strOfNums (stV x.1))) := by rw [cell_of_row W _ 1 _ 23 (0, 0) bX]; rfl
    have h20 : W.cell? ⟨w.heap.size + 1, 0, none⟩ = some (.int .i64 0) := by rw [cell_of_row W _ 0 _ 3 (0, 0) hS.b2]; rfl
    have f20 : W.frozen? ⟨w.heap.size + 1, 0, none⟩ = false := frozen_of_row W _ 0 _ 3 hS.b2
    have h30 : W.cell? ⟨w.heap.size + 1 + 1, 0, none⟩ = some (.bool false) := by rw [cell_of_row W _ 0 _ 4 (0, 0) hS.b3]; rfl
    have f30 : W.frozen? ⟨w.heap.size + 1 + 1, 0, none⟩ = false := frozen_of_row W _ 0 _ 4 hS.b3
    have HS := hid hS
    have HB := hid hB
    have HNO := hid hno
    clear hS hB hno bX
    have hmx : (fun k => (strOfNums (stN k)).toList == s.toList && (strOfNums (stV k)).toList == t.toList) x.1 = m x.1 := by rw [HMM.out]
    dsimp only at hmx
    dsimp only [fldV]
    generalize hsn : strOfNums (stN x.1) = sn at *
    generalize hsv : strOfNums (stV x.1) = sv at *
    clear hsn hsv
    cases hmb : m x.1
    · rw [hmb] at hmx
      have HALL := hid (show ∀ y ∈ pre ++ [x], m y.1 = false from fun y hy => by
        rcases List.mem_append.1 hy with h | h
        · exact HNO.out y h
        · rw [List.mem_singleton.1 h]; exact hmb)
      have hor : ¬ sn.toList = s.toList ∨ (sn.toList = s.toList ∧ ¬ sv.toList = t.toList) := by
        by_cases h : sn.toList = s.toList
        · exact .inr ⟨h, fun h2 => by rw [h, h2] at hmx; simp at hmx⟩
        · exact .inl h
      clear hmx
      rcases hor with h1 | ⟨h1, h2⟩ <;> gi_wp2
      all_goals exact ⟨(KeepsOthers.refl _).from _, Below.refl _ _, ⟨HS.out, HALL.out⟩, HB.out⟩
    · rw [hmb] at hmx
      have h1 : sn.toList = s.toList := eq_of_beq (Bool.and_eq_true _ _ ▸ hmx).1
      have h2 : sv.toList = t.toList := eq_of_beq (Bool.and_eq_true _ _ ▸ hmx).2
      clear hmx
      gi_wp2
      exact ⟨((KeepsOthers.setCell _ _ _).trans (KeepsOthers.setCell _ _ _)).from _, ⟨rfl, pre, x, rfl, HNO.out, hmb, (HS.out.st2 0 _).st3 0 _⟩,
        (HB.out.setCell (p := ⟨w.heap.size + 1, 0, none⟩) (by simp) _).setCell (p := ⟨w.heap.size + 1 + 1, 0, none⟩) (by simp; omega) _⟩
  case done =>
    rintro D ys W hD rfl ⟨⟨hS, hno⟩, hB⟩ hK
    have HA := hid (show .returned (.tuple #[.int .i64 0, .bool false]) = fndE m by unfold fndE; rw [fnd_none hno]; rfl)
    have h20 : W.cell? ⟨w.heap.size + 1, 0, none⟩ = some (.int .i64 0) := by rw [cell_of_row W _ 0 _ 3 (0, 0) hS.b2]; rfl
    have f20 : W.frozen? ⟨w.heap.size + 1, 0, none⟩ = false := frozen_of_row W _ 0 _ 3 hS.b2
    have h30 : W.cell? ⟨w.heap.size + 1 + 1, 0, none⟩ = some (.bool false) := by rw [cell_of_row W _ 0 _ 4 (0, 0) hS.b3]; rfl
    have f30 : W.frozen? ⟨w.heap.size + 1 + 1, 0, none⟩ = false := frozen_of_row W _ 0 _ 4 hS.b3
    have HS := hid hS
    have HB := hid hB
    clear hS hB hno
    gi_wp2
    have hS1 := (HS.out.st2 0 (.int .i64 0)).st3 0 (.bool false)
    have hB1 := (HB.out.setCell (p := ⟨w.heap.size + 1, 0, none⟩) (by simp) (.int .i64 0)).setCell (p := ⟨w.heap.size + 1 + 1, 0, none⟩) (by simp; omega) (.bool false)
    have hK1 := ((KeepsOthers.setCell W ⟨w.heap.size + 1, 0, none⟩ (.int .i64 0)).trans (KeepsOthers.setCell _ ⟨w.heap.size + 1 + 1, 0, none⟩ (.bool false))).same D _ hK rfl
    generalize World.setCell (World.setCell W _ _) _ _ = W9 at *
    have hS2 := hS1.kept (grownBy_putObj' W9 D (.deferred none)) (fun r e => by cases e; exact ⟨_, hK1, rfl⟩)
    refine ⟨by simp, .inl ⟨_, _, rfl, run_takeDeferred hK1, ?_⟩⟩
    have h20 := cell_of_row _ _ 0 _ 3 (0, 0) hS2.b2
    have h30 := cell_of_row _ _ 0 _ 4 (0, 0) hS2.b3
    refine ⟨.tuple #[.int .i64 0, .bool false], ?_, HA.out, hB1.trans (belowK_b (w := w) (Nat.le_refl _) W9 D _ _ (by omega) hK1 rfl rfl)⟩
    simp [results, Try.f46, go_sem, h20, h30]
  case stop =>
    rintro D c pre W hD ⟨k, hk, rfl⟩ ⟨⟨rfl, pr, x, he, h1, h2, hS⟩, hB⟩ hK
    obtain ⟨e1, e2⟩ := fnd_some hk he h1 h2
    have HA := hid (show .returned (.tuple #[.int .i64 (x.1 : Int), .bool true]) = fndE m by unfold fndE; rw [e1, e2]; rfl)
    clear he h1 h2 e1 e2
    gi_wp2
    have hS2 := hS.kept (grownBy_putObj' W D (.deferred none)) (fun r e => by cases e; exact ⟨_, hK, rfl⟩)
    refine ⟨by simp, .inl ⟨_, _, rfl, run_takeDeferred hK, ?_⟩⟩
    have h20 := cell_of_row _ _ 0 _ 3 (0, 0) hS2.b2
    have h30 := cell_of_row _ _ 0 _ 4 (0, 0) hS2.b3
    refine ⟨.tuple #[.int .i64 (x.1 : Int), .bool true], ?_, HA.out, hB.trans (belowK_b (w := w) (Nat.le_refl _) W D _ _ (by omega) hK rfl rfl)⟩
    simp [results, Try.f46, go_sem, h20, h30]
theorem sfield_any (s t : ByteArray) (w : World) : Calls Try.prog 46 #[.agg #[.string s, .string t]] w fun e w' => e = fndE (fun k => (strOfNums (stN k)).toList == s.toList && (strOfNums (stV k)).toList == t.toList) ∧ Q w w' := callsIn_wide.1 (sfield_w s t w)
set_option maxHeartbeats 4000000 in
theorem sname_w (s : ByteArray) (w : World) :
    CallsIn Fence.wide 6 Try.prog 70 #[.string s] w fun e w' => e = fndE (fun k => (strOfNums (stN k)).toList == s.toList) ∧ Q w w' := by
  obtain ⟨m, hm⟩ : ∃ m : Nat → Bool, (fun k => (strOfNums (stN k)).toList == s.toList) = m := ⟨_, rfl⟩
  have HMM := hid hm
  rw [hm]
  clear hm
  refine callsIn_of_wp_marks Try.func70 rfl trivial ?_ rfl
  simp only [Try.ntmps70, List.size_toArray, List.length_cons, List.length_nil, Nat.reduceAdd, Nat.reduceSub, Array.replicate_succ, Array.replicate_zero, List.push_toArray, List.append_toArray, List.nil_append, List.cons_append]
  gi_wp2_with (first | (refine ⟨trivial, ?_⟩; gi_at_call 11; refine (entries_in _ _).mono ?_; rintro e w' ⟨rfl, rfl⟩) | (gi_at_call 11; refine (entries_in _ _).mono ?_; rintro e w' ⟨rfl, rfl⟩))
  generalize hW0 : World.alloc (World.alloc (World.alloc w _) _) _ = W0
  have hsz : W0.heap.size = w.heap.size + 3 := by rw [← hW0]; simp
  have hB0 : Below w.heap.size w W0 := by rw [← hW0]; exact (((Below.refl _ w).alloc (Nat.le_refl _) _).alloc (by simp) _).alloc (by simp; omega) _
  have hS0 : SI w #[.string s] #[.int .i64 0] #[.bool false] 9 3 4 W0 := by
    rw [← hW0]
    have e1 := heap_alloc_new w (.cells #[.string s] 9)
    have e2 := heap_alloc_new (w.alloc (.cells #[.string s] 9)) (.cells #[.int .i64 0] 3)
    have e3 := heap_alloc_new ((w.alloc (.cells #[.string s] 9)).alloc (.cells #[.int .i64 0] 3)) (.cells #[.bool false] 4)
    rw [World.size_alloc] at e2
    rw [World.size_alloc, World.size_alloc] at e3
    exact ⟨(Below.block (((Q.refl (w.alloc (.cells #[.string s] 9))).alloc _).alloc _) _ (by simp)).trans e1, (Below.block ((Q.refl ((w.alloc (.cells #[.string s] 9)).alloc (.cells #[.int .i64 0] 3))).alloc _) _ (by simp)).trans e2, e3⟩
  clear hW0
  refine wpIn_rangeFunc_ownH (F := Fence.wide) (n := 6) rfl (by omega) (gf := 23) (lb := #[]) rfl trivial (enters_of Try.func23 (by kernel_rfl) rfl)
    (iter_stops 5 (by omega) w.heap.size W0) belowK_t (belowK_b (by omega)) (Below.refl _ _) (fun _ => rfl)
    (fun pre W => (SI w #[.string s] #[.int .i64 0] #[.bool false] 9 3 4 W ∧ ∀ x ∈ pre, m x.1 = false) ∧ Below w.heap.size w W)
    (fun c pre W => (c = .ret ∧ ∃ pr x, pre = pr ++ [x] ∧ (∀ y ∈ pr, m y.1 = false) ∧ m x.1 = true ∧ SI w #[.string s] #[.int .i64 (x.1 : Int)] #[.bool true] 9 3 4 W) ∧ Below w.heap.size w W)
    (OwnFrom.and (fun s A B row hs hg hr => ⟨hs.1.kept hg (fun r e => (hr r e).2), hs.2⟩) (ownFrom_below (Nat.le_refl _) (by omega)))
    (fun c => OwnFrom.and (fun s A B row hs hg hr => by obtain ⟨h1, pr, x, h2, h3, h4, h5⟩ := hs; exact ⟨h1, pr, x, h2, h3, h4, h5.kept hg (fun r e => (hr r e).2)⟩) (ownFrom_below (Nat.le_refl _) (by omega)))
    ⟨⟨hS0, fun x hx => by cases hx⟩, hB0⟩
    (fun x a' W => ∃ Bx, w.heap.size + 3 ≤ Bx ∧ W.heap[Bx]? = some (.cells #[.string (strOfNums (stN x.1)), .string (strOfNums (stV x.1))] 23 (0, 0)) ∧ a' = { tmps := #[.string s, .pointer (some ⟨w.heap.size, 0, none⟩), .pointer (some ⟨w.heap.size + 1, 0, none⟩), .pointer (some ⟨w.heap.size + 1 + 1, 0, none⟩), .int .i64 (x.1 : Int), .pointer (some ⟨Bx, 0, none⟩), .func (.func 23) #[] #[], .int .i64 (x.1 : Int), fldV (stN x.1) (stV x.1), undef, undef, undef, undef, undef], defers := [] })
    (fun x a' s A B row hs hg hr => by obtain ⟨Bx, h1, h2, h3⟩ := hs; exact ⟨Bx, h1, row_kept h2 hg (fun r e => (hr r e).2), h3⟩) ?assign ?body ?done ?stop
  case assign =>
    rintro l pre x W K hi hK
    gi_wp2
    exact hK _ _ ((KeepsOthers.alloc _ _).from _) ((Below.refl _ W).alloc hi.2.size _) ⟨⟨hi.1.1.q ((Q.refl W).alloc _), hi.1.2⟩, hi.2.alloc hi.2.size _⟩ ⟨W.heap.size, by have := lt_of_block hi.1.1.b3; omega, heap_alloc_new W _, rfl⟩
  case body =>
    rintro l pre x a' W hl hr ⟨⟨hS, hno⟩, hB⟩ ⟨Bx, hBx, bX, rfl⟩ _
    have hc1 : W.cell? ⟨w.heap.size, 0, none⟩ = some (.string s) := by rw [cell_of_row W _ 0 _ 9 (0, 0) hS.b1]; rfl
    have hx0 : W.cell? ⟨Bx, 0, none⟩ = some (.string (strOfNums (stN x.1))) := by rw [cell_of_row W _ 0 _ 23 (0, 0) bX]; rfl
    have hx1 : W.cell? ⟨Bx, 1, none⟩ = some (.string (strOfNums (stV x.1))) := by rw [cell_of_row W _ 1 _ 23 (0, 0) bX]; rfl
    have h20 : W.cell? ⟨w.heap.size + 1, 0, none⟩ = some (.int .i64 0) := by rw [cell_of_row W _ 0 _ 3 (0, 0) hS.b2]; rfl
    have f20 : W.frozen? ⟨w.heap.size + 1, 0, none⟩ = false := frozen_of_row W _ 0 _ 3 hS.b2
    have h30 : W.cell? ⟨w.heap.size + 1 + 1, 0, none⟩ = some (.bool false) := by rw [cell_of_row W _ 0 _ 4 (0, 0) hS.b3]; rfl
    have f30 : W.frozen? ⟨w.heap.size + 1 + 1, 0, none⟩ = false := frozen_of_row W _ 0 _ 4 hS.b3
    have HS := hid hS
    have HB := hid hB
    have HNO := hid hno
    clear hS hB hno bX
    have hmx : (fun k => (strOfNums (stN k)).toList == s.toList) x.1 = m x.1 := by rw [HMM.out]
    dsimp only at hmx
    dsimp only [fldV]
    generalize hsn : strOfNums (stN x.1) = sn at *
    generalize hsv : strOfNums (stV x.1) = sv at *
    clear hsn hsv
    cases hmb : m x.1
    · rw [hmb] at hmx
      have HALL := hid (show ∀ y ∈ pre ++ [x], m y.1 = false from fun y hy => by
        rcases List.mem_append.1 hy with h | h
        · exact HNO.out y h
        · rw [List.mem_singleton.1 h]; exact hmb)
      gi_wp2
      all_goals exact ⟨(KeepsOthers.refl _).from _, Below.refl _ _, ⟨HS.out, HALL.out⟩, HB.out⟩
    · rw [hmb] at hmx
      gi_wp2
      exact ⟨((KeepsOthers.setCell _ _ _).trans (KeepsOthers.setCell _ _ _)).from _, ⟨rfl, pre, x, rfl, HNO.out, hmb, (HS.out.st2 0 _).st3 0 _⟩,
        (HB.out.setCell (p := ⟨w.heap.size + 1, 0, none⟩) (by simp) _).setCell (p := ⟨w.heap.size + 1 + 1, 0, none⟩) (by simp; omega) _⟩
  case done =>
    rintro D ys W hD rfl ⟨⟨hS, hno⟩, hB⟩ hK
    have HA := hid (show .returned (.tuple #[.int .i64 0, .bool false]) = fndE m by unfold fndE; rw [fnd_none hno]; rfl)
    have h20 : W.cell? ⟨w.heap.size + 1, 0, none⟩ = some (.int .i64 0) := by rw [cell_of_row W _ 0 _ 3 (0, 0) hS.b2]; rfl
    have f20 : W.frozen? ⟨w.heap.size + 1, 0, none⟩ = false := frozen_of_row W _ 0 _ 3 hS.b2
    have h30 : W.cell? ⟨w.heap.size + 1 + 1, 0, none⟩ = some (.bool false) := by rw [cell_of_row W _ 0 _ 4 (0, 0) hS.b3]; rfl
    have f30 : W.frozen? ⟨w.heap.size + 1 + 1, 0, none⟩ = false := frozen_of_row W _ 0 _ 4 hS.b3
    have HS := hid hS
    have HB := hid hB
    clear hS hB hno
    gi_wp2
    have hS1 := (HS.out.st2 0 (.int .i64 0)).st3 0 (.bool false)
    have hB1 := (HB.out.setCell (p := ⟨w.heap.size + 1, 0, none⟩) (by simp) (.int .i64 0)).setCell (p := ⟨w.heap.size + 1 + 1, 0, none⟩) (by simp; omega) (.bool false)
    have hK1 := ((KeepsOthers.setCell W ⟨w.heap.size + 1, 0, none⟩ (.int .i64 0)).trans (KeepsOthers.setCell _ ⟨w.heap.size + 1 + 1, 0, none⟩ (.bool false))).same D _ hK rfl
    generalize World.setCell (World.setCell W _ _) _ _ = W9 at *
    have hS2 := hS1.kept (grownBy_putObj' W9 D (.deferred none)) (fun r e => by cases e; exact ⟨_, hK1, rfl⟩)
    refine ⟨by simp, .inl ⟨_, _, rfl, run_takeDeferred hK1, ?_⟩⟩
    have h20 := cell_of_row _ _ 0 _ 3 (0, 0) hS2.b2
    have h30 := cell_of_row _ _ 0 _ 4 (0, 0) hS2.b3
    refine ⟨.tuple #[.int .i64 0, .bool false], ?_, HA.out, hB1.trans (belowK_b (w := w) (Nat.le_refl _) W9 D _ _ (by omega) hK1 rfl rfl)⟩
    simp [results, Try.f70, go_sem, h20, h30]
  case stop =>
    rintro D c pre W hD ⟨k, hk, rfl⟩ ⟨⟨rfl, pr, x, he, h1, h2, hS⟩, hB⟩ hK
    obtain ⟨e1, e2⟩ := fnd_some hk he h1 h2
    have HA := hid (show .returned (.tuple #[.int .i64 (x.1 : Int), .bool true]) = fndE m by unfold fndE; rw [e1, e2]; rfl)
    clear he h1 h2 e1 e2
    gi_wp2
    have hS2 := hS.kept (grownBy_putObj' W D (.deferred none)) (fun r e => by cases e; exact ⟨_, hK, rfl⟩)
    refine ⟨by simp, .inl ⟨_, _, rfl, run_takeDeferred hK, ?_⟩⟩
    have h20 := cell_of_row _ _ 0 _ 3 (0, 0) hS2.b2
    have h30 := cell_of_row _ _ 0 _ 4 (0, 0) hS2.b3
    refine ⟨.tuple #[.int .i64 (x.1 : Int), .bool true], ?_, HA.out, hB.trans (belowK_b (w := w) (Nat.le_refl _) W D _ _ (by omega) hK rfl rfl)⟩
    simp [results, Try.f70, go_sem, h20, h30]
theorem sname_any (s : ByteArray) (w : World) : Calls Try.prog 70 #[.string s] w fun e w' => e = fndE (fun k => (strOfNums (stN k)).toList == s.toList) ∧ Q w w' := callsIn_wide.1 (sname_w s w)
theorem static_any (n : Int) (w : World) : Calls Try.prog 5 #[.int .i64 n] w fun e w' => e = stAns n ∧ Q w w' := callsIn_wide.1 (static_w n w)
end Go.Proofs.Ytehejibllkmflaa
