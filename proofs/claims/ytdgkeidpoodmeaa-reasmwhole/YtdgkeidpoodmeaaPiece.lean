/-
  What the law's own piece answers: a cut of a source, in new memory. A contract that the walks of ReasmPrefix and ReasmWhole use.
-/
import Derived.Test.YtdgkeidpoodmeaaOpen
import Derived.Deep.RegionWith
import Derived.Deep.RegionHeld3
namespace Go.Proofs.Ytdgkeidpoodmeaa
open Go.RowKit
set_option linter.unusedVariables false

theorem slice_run (a : Option Addr) (n c p k : Nat) (hpk : p + k ≤ c) (u : World) :
    (Instr.slice 28 (.slice a n c) (some (.int .i64 p)) (some (.int .i64 ((p : Int) + k))) none).run Try.prog u = .ok (.slice (if c = p then a else a.map (·.add p)) k (c - p)) u := by
  have h := run_slice_lh (P := Try.prog) u 28 a n c Try.underlying28 .i64 .i64 p ((p : Int) + k) (by omega) (by omega) (by omega)
  rw [h]
  obtain ⟨i0, hi, hz0, hz1, hz2⟩ := info_parts info5
  have e : Try.prog.elem 28 = 5 := by kernel_rfl
  simp [sizeOf, typeInfo, e, hi, hz1, sliced, Result.andThen]
  rw [show ((p : Int) + k).toNat = p + k from by omega]
  simp

theorem seg_cut {w : World} {a : Option Addr} {zs : List Int} {c p k : Nat} (h : Seg w a zs) (hc : zs.length ≤ c) (hpk : p + k ≤ zs.length) :
    Seg w (if c = p then a else a.map (·.add p)) ((zs.drop p).take k) := by
  intro hne
  have hk : 0 < k := by
    cases k with
    | zero => simp at hne
    | succ m => omega
  obtain ⟨b, off, rfl, hcell⟩ := h (by intro e; simp [e] at hne)
  rw [if_neg (by omega)]
  refine ⟨b, off + p, by simp [addr_add], fun i hi => ?_⟩
  have hi' : i < k := by have := List.length_take_le k (zs.drop p); omega
  rw [Nat.add_assoc, hcell (p + i) (by omega)]
  simp [List.getD_eq_getElem?_getD, hi']

/-- What a cut of a source brings: its place, its bytes in new memory, whether it reaches the end. -/
def PieceAns (w w' : World) (sl : Nat) (zs : List Int) (e : Ending) : Prop :=
  ∃ (p n : Nat) (da : Option Addr) (dc : Nat), p + n ≤ sl ∧ e = .returned (.tuple #[.int .i64 p, .slice da n dc, .bool (decide (p + n = sl))]) ∧ n ≤ dc ∧ Q w w' ∧ Seg w' da ((zs.drop p).take n) ∧ (∀ b, blk da = some b → w.heap.size ≤ b)

set_option maxHeartbeats 4000000 in
set_option maxRecDepth 100000 in
theorem piece_bad (sa : Option Addr) (sl sc : Nat) (zs : List Int) (A L : Int) (w : World) (hsl : sl ≤ 65536) (hbad : A < 0 ∨ (sl : Int) < A ∨ L < 0) :
    Calls Try.prog 23 #[.slice sa sl sc, .agg #[.int .i64 A, .int .i64 L]] w fun e w' => PieceAns w w' sl zs e := by
  have HQ1 := hid ((Q.refl w).alloc (.cells #[.int .i64 A, .int .i64 L] 50))
  have FINB := hid (show ∀ w', Q w w' → PieceAns w w' sl zs (Ending.returned (.tuple #[.int .i64 0, .slice none 0 0, .bool ((sl : Int) == 0)])) from fun w' hq =>
      ⟨0, 0, none, 0, by omega, by
        have : ((sl : Int) == 0) = decide (0 + 0 = sl) := by
          by_cases h : sl = 0
          · subst h; rfl
          · have h1 : ((sl : Int) == 0) = false := by simp; omega
            have h2 : decide (0 + 0 = sl) = false := by simp; omega
            rw [h1, h2]
        rw [this]; rfl, by omega, hq, seg_nil _ _, fun b hb => by cases hb⟩)
  by_cases h1 : A < 0
  · have b1 : decide (A < 0) = true := by simp [h1]
    go_enter Try.func23, Try.ntmps23
    go_wp2
    go_ret3
    exact FINB.out _ HQ1.out
  · have b1 : decide (A < 0) = false := by simp [h1]
    by_cases h2 : (sl : Int) < A
    · have b2 : decide ((sl : Int) < A) = true := by simp [h2]
      go_enter Try.func23, Try.ntmps23
      go_wp2
      go_ret3
      exact FINB.out _ HQ1.out
    · have b2 : decide ((sl : Int) < A) = false := by simp [h2]
      have h3 : L < 0 := by omega
      go_enter Try.func23, Try.ntmps23
      go_wp2
      go_ret3
      exact FINB.out _ HQ1.out

set_option maxHeartbeats 4000000 in
set_option maxRecDepth 100000 in
theorem piece_good (sa a' : Option Addr) (sl sc c' p n : Nat) (zs bs : List Int) (L : Int) (w : World) (hsl : sl ≤ 65536) (hps : p ≤ sl) (hL : 0 ≤ L) (hL1 : L ≤ 9223372036854775807) (hn : (n : Int) = min L ((sl : Int) - p)) (hcap : sl ≤ sc)
    (hbs : bs = (zs.drop p).take n) (hbl : bs.length = n) (hseg : Seg w a' bs)
    (hsr : ∀ u, (Instr.slice 28 (.slice sa sl sc) (some (.int .i64 p)) (some (.int .i64 ((p : Int) + n))) none).run Try.prog u = .ok (.slice a' n c') u) :
    Calls Try.prog 23 #[.slice sa sl sc, .agg #[.int .i64 p, .int .i64 L]] w fun e w' => PieceAns w w' sl zs e := by
  have hrow : (w.alloc (.cells #[.int .i64 (p : Int), .int .i64 L] 50)).heap[w.heap.size]? = some (.cells #[.int .i64 (p : Int), .int .i64 L] 50 (0, 0)) := heap_alloc_new w _
  have hq1 : Q w (w.alloc (.cells #[.int .i64 (p : Int), .int .i64 L] 50)) := (Q.refl w).alloc _
  have x0 : (w.alloc (.cells #[.int .i64 (p : Int), .int .i64 L] 50)).cell? ⟨w.heap.size, 0, none⟩ = some (.int .i64 p) := by rw [cell_of_row _ _ 0 _ 50 (0, 0) hrow]; rfl
  have x1 : (w.alloc (.cells #[.int .i64 (p : Int), .int .i64 L] 50)).cell? ⟨w.heap.size, 1, none⟩ = some (.int .i64 L) := by rw [cell_of_row _ _ 1 _ 50 (0, 0) hrow]; rfl
  have hlt1 : w.heap.size < (w.alloc (.cells #[.int .i64 (p : Int), .int .i64 L] 50)).heap.size := lt_of_block hrow
  have HQ1 := hid hq1
  have CP := hid (fun (u : World) (hu : Q (w.alloc (.cells #[.int .i64 (p : Int), .int .i64 L] 50)) u) => copy_any a' n c' bs u hbl (by omega) (hseg.q (hq1.trans hu)))
  have FIN := hid (show ∀ (u : World) (g : Nat) (w' w2 : World), Q (w.alloc (.cells #[.int .i64 (p : Int), .int .i64 L] 50)) u → Q u w' → Sub w' 5 1 (some ⟨g, 0, none⟩) n n (bs.map (Value.int .u8)) → u.heap.size ≤ g → Q w' w2 → ∀ v, v = decide (p + n = sl) → PieceAns w w2 sl zs (.returned (.tuple #[.int .i64 p, .slice (some ⟨g, 0, none⟩) n n, .bool v])) from fun u g w' w2 hu h1 h2 h3 h4 v hv => by
    subst hv
    refine ⟨p, n, some ⟨g, 0, none⟩, n, by omega, rfl, Nat.le_refl _, HQ1.out.trans (hu.trans (h1.trans h4)), by rw [← hbs]; exact h2.seg.q h4, fun b hb => ?_⟩
    have e : g = b := by simpa [blk] using hb
    have := HQ1.out.size
    have := hu.size
    omega)
  have b1 : decide ((p : Int) < 0) = false := by simp
  have b2 : decide ((sl : Int) < (p : Int)) = false := by simp; omega
  have b3 : ¬ L < 0 := by omega
  clear hrow hq1 hseg hbl hbs
  by_cases hbig : (sl : Int) - (p : Int) < L
  · have hw3 : IntKind.i64.wrap ((sl : Int) - (p : Int)) = (n : Int) := by rw [IntKind.wrap_i64]; omega
    have hn2 : sl - p = n := by omega
    have HN := hid hn
    clear hn
    go_enter Try.func23, Try.ntmps23

    have hw4 : IntKind.i64.wrap ((p : Int) + (n : Int)) = (p : Int) + n := by rw [IntKind.wrap_i64]; omega
    have hpn : (p : Int) + (n : Int) ≤ (sc : Int) := by omega
    go_wp2
    go_region_held3 (fun w' => w'.cell? ⟨w.heap.size, 0, none⟩ = some (.int .i64 p)) (simp [go_sem, *])
      ((go_at_call 26; refine (CP.out _ (by repeat (first | exact Q.refl _ | apply Q.drewN | apply Q.drew))).mono ?_; rintro e w2 ⟨g, rfl, k1, k2, k3⟩; have k0 : w2.cell? ⟨w.heap.size, 0, none⟩ = some (.int .i64 p) := (k1.cell (p := ⟨w.heap.size, 0, none⟩) hlt1).trans x0))
    have PA := hid (FIN.out _ g w2 _ (by repeat (first | exact Q.refl _ | apply Q.drewN | apply Q.drew)) k1 k2 k3 (Q.refl w2))
    clear k0 k1 k2 k3
    go_wp2
    go_ret3
    exact PA.out _ (by by_cases hh : p + n = sl; (have hh' : (p : Int) + n = sl := by omega); (simp [hh, hh']); (have hh' : ¬ (p : Int) + n = sl := by omega); simp [hh, hh'])

  · have hLn : L = (n : Int) := by omega
    subst hLn
    clear hn
    have hw3 : IntKind.i64.wrap ((sl : Int) - (p : Int)) = (sl : Int) - (p : Int) := by rw [IntKind.wrap_i64]; omega
    go_enter Try.func23, Try.ntmps23

    have hw4 : IntKind.i64.wrap ((p : Int) + (n : Int)) = (p : Int) + n := by rw [IntKind.wrap_i64]; omega
    have hpn : (p : Int) + (n : Int) ≤ (sc : Int) := by omega
    go_wp2
    go_region_held3 (fun w' => w'.cell? ⟨w.heap.size, 0, none⟩ = some (.int .i64 p)) (simp [go_sem, *])
      ((go_at_call 26; refine (CP.out _ (by repeat (first | exact Q.refl _ | apply Q.drewN | apply Q.drew))).mono ?_; rintro e w2 ⟨g, rfl, k1, k2, k3⟩; have k0 : w2.cell? ⟨w.heap.size, 0, none⟩ = some (.int .i64 p) := (k1.cell (p := ⟨w.heap.size, 0, none⟩) hlt1).trans x0))
    have PA := hid (FIN.out _ g w2 _ (by repeat (first | exact Q.refl _ | apply Q.drewN | apply Q.drew)) k1 k2 k3 (Q.refl w2))
    clear k0 k1 k2 k3
    go_wp2
    go_ret3
    exact PA.out _ (by by_cases hh : p + n = sl; (have hh' : (p : Int) + n = sl := by omega); (simp [hh, hh']); (have hh' : ¬ (p : Int) + n = sl := by omega); simp [hh, hh'])


theorem piece_any (sa : Option Addr) (sl sc : Nat) (zs : List Int) (A L : Int) (w : World) (hz : Seg w sa zs) (hl : zs.length = sl) (hsc : sl ≤ sc) (hsl : sl ≤ 65536) (hL : -9223372036854775808 ≤ L ∧ L ≤ 9223372036854775807) :
    Calls Try.prog 23 #[.slice sa sl sc, .agg #[.int .i64 A, .int .i64 L]] w fun e w' => PieceAns w w' sl zs e := by
  by_cases hbad : A < 0 ∨ (sl : Int) < A ∨ L < 0
  · exact piece_bad sa sl sc zs A L w hsl hbad
  · obtain ⟨p, rfl⟩ := Int.eq_ofNat_of_zero_le (show 0 ≤ A by omega)
    obtain ⟨n, hn⟩ := Int.eq_ofNat_of_zero_le (show 0 ≤ min L ((sl : Int) - p) by omega)
    exact piece_good sa _ sl sc _ p n zs _ L w hsl (by omega) (by omega) hL.2 hn.symm hsc rfl (by rw [List.length_take, List.length_drop, hl]; omega) (seg_cut hz (by omega) (by omega)) (slice_run sa sl sc p n (by omega))
end Go.Proofs.Ytdgkeidpoodmeaa
