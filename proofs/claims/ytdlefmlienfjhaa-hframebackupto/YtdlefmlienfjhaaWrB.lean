/-
  What hframe's PutSettings answers: a contract that the statements' walks use.
-/
import Derived.Test.YtdlefmlienfjhaaWrA
namespace Go.Proofs.Ytdlefmlienfjhaa
open Go.RowKit
set_option linter.unusedVariables false
set_option maxRecDepth 20000

theorem src_segN {w : World} {a : Option Addr} {n c : Nat} {zs : List Int} (h : SegN w a zs) (hl : zs.length = n) : Src Try.prog 1 63 (.slice a n c) n (i64s zs) w := by
  by_cases h0 : zs = []
  · subst h0
    obtain rfl : n = 0 := by simpa using hl.symm
    cases a with
    | none => exact Src.ofNil w Try.underlying63 c
    | some ad => exact Src.ofSlice (size := 1) w Try.underlying63 ad 0 c [] (by simp) (by intro j u hj; cases hj) (by intro u hu; cases hu)
  · obtain ⟨b, off, rfl, hc⟩ := h h0
    refine Src.ofSlice (size := 1) w Try.underlying63 ⟨b, off, none⟩ n c (i64s zs) (by simp [hl]) (fun j u hj => ?_) (ints_oneCell _ _)
    have hj' : j < zs.length := by
      rcases Nat.lt_or_ge j zs.length with hh | hh
      · exact hh
      · rw [List.getElem?_eq_none (by simpa using hh)] at hj; cases hj
    rw [addr_add, hc j hj']
    rw [List.getElem?_map, List.getElem?_eq_getElem hj'] at hj
    simp only [Option.map_some, Option.some.injEq] at hj
    rw [← hj, List.getD_eq_getElem?_getD, List.getElem?_eq_getElem hj']; rfl
theorem rowN_append {w : World} {d : Sv} {zs ys : List Int} {x : Value} {m : Nat} {ty : TypeId} (h : RowN w d zs) (hs : Src Try.prog 1 63 x m (i64s ys) w) (hn : d.n + m ≤ 1000000) :
    ∃ d' w', (Builtin.append_ #[63, 63] ty #[.slice d.a d.n d.c, x]).run Try.prog w = .ok (.slice d'.a d'.n d'.c) w' ∧ RowN w' d' (zs ++ ys) ∧ Keep (fun b => blk d.a = some b) w w' ∧ (blk d'.a = blk d.a ∨ blk d'.a = some w.heap.size) := by
  obtain ⟨i0, hi, hz0, hz1, hz2⟩ := info_parts info3
  obtain ⟨a', c', w', h1, h2, h3, h4⟩ := sub_append (P := Try.prog) (ty := ty) Try.underlying63 hi hz0 hz1 hz2 rfl h hs (by unfold maxLen; omega) (by omega)
  exact ⟨⟨a', d.n + m, c'⟩, w', h1, by show Sub _ _ _ _ _ _ (i64s _); rw [show i64s (zs ++ ys) = i64s zs ++ i64s ys from List.map_append]; exact h2, h3, h4⟩
/-- A list that grows. -/
structure PL (w : World) (sb : Nat) (c b l : Int) (wx : World) (y : Sv) (L : List Int) : Prop where
  q : Q w wx
  s : wx.heap[sb]? = some (.cells #[.int .i64 c, .int .i64 b, .int .i64 l] 39 (0, 0))
  r : RowN wx y L
  n : New (w.heap.size + 1) y
  e : sb = w.heap.size
theorem PL.c0 {w : World} {sb : Nat} {c b l : Int} {wx : World} {y : Sv} {L : List Int} (h : PL w sb c b l wx y L) : wx.cell? ⟨sb, 0, none⟩ = some (.int .i64 c) := by rw [cell_of_row wx sb 0 _ 39 (0, 0) h.s]; rfl
theorem PL.c1 {w : World} {sb : Nat} {c b l : Int} {wx : World} {y : Sv} {L : List Int} (h : PL w sb c b l wx y L) : wx.cell? ⟨sb, 1, none⟩ = some (.int .i64 b) := by rw [cell_of_row wx sb 1 _ 39 (0, 0) h.s]; rfl
theorem PL.c2 {w : World} {sb : Nat} {c b l : Int} {wx : World} {y : Sv} {L : List Int} (h : PL w sb c b l wx y L) : wx.cell? ⟨sb, 2, none⟩ = some (.int .i64 l) := by rw [cell_of_row wx sb 2 _ 39 (0, 0) h.s]; rfl
/-- Two numbers more. -/
theorem PL.app {w : World} {sb : Nat} {c b l : Int} {wx : World} {y : Sv} {L : List Int} (h : PL w sb c b l wx y L) (hL : L.length ≤ 100) (i v : Int) :
    ∃ (z : Sv) (wy : World), (Builtin.append_ #[63, 63] 63 #[.slice y.a y.n y.c, .slice (some ⟨wx.heap.size, 0, none⟩) 2 2]).run Try.prog (wx.alloc (.cells #[.int .i64 i, .int .i64 v] 3)) = .ok (.slice z.a z.n z.c) wy ∧ PL w sb c b l wy z (L ++ [i, v]) := by
  have q1 : Q wx (wx.alloc (.cells #[.int .i64 i, .int .i64 v] 3)) := (Q.refl wx).alloc _
  have hyl := RowN.len h.r
  obtain ⟨z, wy, hrun, hrow, hk, hb⟩ := rowN_append (ty := 63) (m := 2) (Sub.q h.r q1) (src_segN (segN_lit2 wx i v) rfl) (by show y.n + 2 ≤ _; omega)
  have hq := h.q.size
  have hlt := lt_of_block h.s
  have he := h.e
  have hsz : (wx.alloc (.cells #[.int .i64 i, .int .i64 v] 3)).heap.size = wx.heap.size + 1 := by simp
  refine ⟨z, wy, hrun, ?_, ?_, hrow, ?_, h.e⟩
  · exact hk.below (h.q.trans q1) (h.q.trans q1).size (fun i e => by have := h.n i e; omega)
  · exact (hk.block sb (by omega) (fun e => by have := h.n sb e; omega)).trans (blk_q q1 h.s)
  · intro b e
    rcases hb with h2 | h2
    · exact h.n b (by rw [← h2]; exact e)
    · rw [h2] at e; cases e; omega
def plB (L : List Int) : List Int := if nmE L = 0 then frB 4 (nmB L) else []
/-- What is behind the three tests. -/
theorem PL.fin {w : World} {sb : Nat} {c b l : Int} {wx : World} {y : Sv} {L : List Int} (h : PL w sb c b l wx y L) (hL : L.length ≤ 6) (h4 : frE 4 (nmB L).length = 0) :
    Calls Try.prog 36 #[.int .i64 4, .slice y.a y.n y.c] wx fun e w' => ∃ z : Sv, e = .returned (.tuple #[.slice z.a z.n z.c, .int .i64 (nmE L)]) ∧ Q w w' ∧ Row w' z (plB L) ∧ New w.heap.size z := by
  have hl := RowN.len h.r
  refine (frameof_any 4 y.a y.n y.c L wx hl (by omega) (RowN.seg h.r) h4).mono ?_
  rintro e w' ⟨z, rfl, q, r, n⟩
  exact ⟨z, rfl, h.q.trans q, r, n.mono h.q.size⟩
set_option maxHeartbeats 8000000 in
theorem settings_put_any (c b l : Int) (w : World) : Calls Try.prog 22 #[.agg #[.int .i64 c, .int .i64 b, .int .i64 l]] w fun e w' => ∃ y : Sv, e = .returned (.tuple #[.slice y.a y.n y.c, .int .i64 (stE c b l)]) ∧ Q w w' ∧ Row w' y (stB c b l) ∧ New w.heap.size y := by
  have H0 := hid (show PL w w.heap.size c b l (w.alloc (.cells #[.int .i64 c, .int .i64 b, .int .i64 l] 39)) nilS [] from ⟨(Q.refl w).alloc _, heap_alloc_new w _, sub_nil _ _ _, new_nil _, rfl⟩)
  have HF4 := hid (fr4 c b l)
  have HE : Hid (stL c b l = ((if c = 0 then [] else [1, c]) ++ (if b = 0 then [] else [7, b])) ++ (if l = -1 then [] else [6, l])) := hid rfl
  have hB : stB c b l = plB (stL c b l) := rfl
  have hE : stE c b l = nmE (stL c b l) := rfl
  rw [hB, hE]
  clear hB hE
  generalize stL c b l = LL at *
  go_enter Try.func22, Try.ntmps22
  go_upto_region 2 with fail
  generalize hW : World.alloc w _ = w1 at *
  clear hW
  have s0 := H0.out.c0
  have s1 := H0.out.c1
  have s2 := H0.out.c2
  by_cases hc : c = 0
  · have hcb : (c != 0) = false := by simp [hc]
    by_cases hb : b = 0
    · have hbb : (b != 0) = false := by simp [hb]
      by_cases hl : l = -1
      · have hlb : (l != -1) = false := by simp [hl]
        have HLL := hid (show LL = [] from by rw [HE.out]; simp [hc, hb, hl])
        clear HE hc hb hl
        have HFIN := hid (H0.out.fin (by simp) (by rw [← HLL.out]; exact HF4.out))
        rw [← HLL.out] at HFIN
        go_wp2_with (go_at_call 36; refine HFIN.out.mono ?_; rintro e w9 ⟨⟨za, zn, zc⟩, rfl, hz⟩; have HZ := hid hz; clear hz)
        go_ret2
        exact ⟨⟨za, zn, zc⟩, rfl, HZ.out⟩
      · have hlb : (l != -1) = true := by simp [hl]
        have HLL := hid (show LL = [] ++ [6, l] from by rw [HE.out]; simp [hc, hb, hl])
        clear HE hc hb hl
        obtain ⟨⟨a1, n1, c1⟩, y1, run1, pl1⟩ := H0.out.app (by simp) 6 l
        have P1 := hid pl1
        have s10 := pl1.c0
        have s11 := pl1.c1
        have s12 := pl1.c2
        clear pl1
        have HFIN := hid (P1.out.fin (by simp) (by rw [← HLL.out]; exact HF4.out))
        rw [← HLL.out] at HFIN
        dsimp only [nilS] at run1
        go_wp2_with (first | (go_at_call 36; refine HFIN.out.mono ?_; rintro e w9 ⟨⟨za, zn, zc⟩, rfl, hz⟩; have HZ := hid hz; clear hz) | (at_builtin; first | (refine Lib.wpList_append_run _ rfl _ _ _ _ rfl _ _ rfl rfl _ _ run1 ?_; clear run1)))
        go_ret2
        exact ⟨⟨za, zn, zc⟩, rfl, HZ.out⟩
    · have hbb : (b != 0) = true := by simp [hb]
      by_cases hl : l = -1
      · have hlb : (l != -1) = false := by simp [hl]
        have HLL := hid (show LL = [] ++ [7, b] from by rw [HE.out]; simp [hc, hb, hl])
        clear HE hc hb hl
        obtain ⟨⟨a1, n1, c1⟩, y1, run1, pl1⟩ := H0.out.app (by simp) 7 b
        have P1 := hid pl1
        have s10 := pl1.c0
        have s11 := pl1.c1
        have s12 := pl1.c2
        clear pl1
        have HFIN := hid (P1.out.fin (by simp) (by rw [← HLL.out]; exact HF4.out))
        rw [← HLL.out] at HFIN
        dsimp only [nilS] at run1
        go_wp2_with (first | (go_at_call 36; refine HFIN.out.mono ?_; rintro e w9 ⟨⟨za, zn, zc⟩, rfl, hz⟩; have HZ := hid hz; clear hz) | (at_builtin; first | (refine Lib.wpList_append_run _ rfl _ _ _ _ rfl _ _ rfl rfl _ _ run1 ?_; clear run1)))
        go_ret2
        exact ⟨⟨za, zn, zc⟩, rfl, HZ.out⟩
      · have hlb : (l != -1) = true := by simp [hl]
        have HLL := hid (show LL = [] ++ [7, b] ++ [6, l] from by rw [HE.out]; simp [hc, hb, hl])
        clear HE hc hb hl
        obtain ⟨⟨a1, n1, c1⟩, y1, run1, pl1⟩ := H0.out.app (by simp) 7 b
        have P1 := hid pl1
        have s10 := pl1.c0
        have s11 := pl1.c1
        have s12 := pl1.c2
        clear pl1
        obtain ⟨⟨a2, n2, c2⟩, y2, run2, pl2⟩ := P1.out.app (by simp) 6 l
        have P2 := hid pl2
        have s20 := pl2.c0
        have s21 := pl2.c1
        have s22 := pl2.c2
        clear pl2
        have HFIN := hid (P2.out.fin (by simp) (by rw [← HLL.out]; exact HF4.out))
        rw [← HLL.out] at HFIN
        dsimp only [nilS] at run1 run2
        go_wp2_with (first | (go_at_call 36; refine HFIN.out.mono ?_; rintro e w9 ⟨⟨za, zn, zc⟩, rfl, hz⟩; have HZ := hid hz; clear hz) | (at_builtin; first | (refine Lib.wpList_append_run _ rfl _ _ _ _ rfl _ _ rfl rfl _ _ run1 ?_; clear run1) | (refine Lib.wpList_append_run _ rfl _ _ _ _ rfl _ _ rfl rfl _ _ run2 ?_; clear run2)))
        go_ret2
        exact ⟨⟨za, zn, zc⟩, rfl, HZ.out⟩
  · have hcb : (c != 0) = true := by simp [hc]
    by_cases hb : b = 0
    · have hbb : (b != 0) = false := by simp [hb]
      by_cases hl : l = -1
      · have hlb : (l != -1) = false := by simp [hl]
        have HLL := hid (show LL = [] ++ [1, c] from by rw [HE.out]; simp [hc, hb, hl])
        clear HE hc hb hl
        obtain ⟨⟨a1, n1, c1⟩, y1, run1, pl1⟩ := H0.out.app (by simp) 1 c
        have P1 := hid pl1
        have s10 := pl1.c0
        have s11 := pl1.c1
        have s12 := pl1.c2
        clear pl1
        have HFIN := hid (P1.out.fin (by simp) (by rw [← HLL.out]; exact HF4.out))
        rw [← HLL.out] at HFIN
        dsimp only [nilS] at run1
        go_wp2_with (first | (go_at_call 36; refine HFIN.out.mono ?_; rintro e w9 ⟨⟨za, zn, zc⟩, rfl, hz⟩; have HZ := hid hz; clear hz) | (at_builtin; first | (refine Lib.wpList_append_run _ rfl _ _ _ _ rfl _ _ rfl rfl _ _ run1 ?_; clear run1)))
        go_ret2
        exact ⟨⟨za, zn, zc⟩, rfl, HZ.out⟩
      · have hlb : (l != -1) = true := by simp [hl]
        have HLL := hid (show LL = [] ++ [1, c] ++ [6, l] from by rw [HE.out]; simp [hc, hb, hl])
        clear HE hc hb hl
        obtain ⟨⟨a1, n1, c1⟩, y1, run1, pl1⟩ := H0.out.app (by simp) 1 c
        have P1 := hid pl1
        have s10 := pl1.c0
        have s11 := pl1.c1
        have s12 := pl1.c2
        clear pl1
        obtain ⟨⟨a2, n2, c2⟩, y2, run2, pl2⟩ := P1.out.app (by simp) 6 l
        have P2 := hid pl2
        have s20 := pl2.c0
        have s21 := pl2.c1
        have s22 := pl2.c2
        clear pl2
        have HFIN := hid (P2.out.fin (by simp) (by rw [← HLL.out]; exact HF4.out))
        rw [← HLL.out] at HFIN
        dsimp only [nilS] at run1 run2
        go_wp2_with (first | (go_at_call 36; refine HFIN.out.mono ?_; rintro e w9 ⟨⟨za, zn, zc⟩, rfl, hz⟩; have HZ := hid hz; clear hz) | (at_builtin; first | (refine Lib.wpList_append_run _ rfl _ _ _ _ rfl _ _ rfl rfl _ _ run1 ?_; clear run1) | (refine Lib.wpList_append_run _ rfl _ _ _ _ rfl _ _ rfl rfl _ _ run2 ?_; clear run2)))
        go_ret2
        exact ⟨⟨za, zn, zc⟩, rfl, HZ.out⟩
    · have hbb : (b != 0) = true := by simp [hb]
      by_cases hl : l = -1
      · have hlb : (l != -1) = false := by simp [hl]
        have HLL := hid (show LL = [] ++ [1, c] ++ [7, b] from by rw [HE.out]; simp [hc, hb, hl])
        clear HE hc hb hl
        obtain ⟨⟨a1, n1, c1⟩, y1, run1, pl1⟩ := H0.out.app (by simp) 1 c
        have P1 := hid pl1
        have s10 := pl1.c0
        have s11 := pl1.c1
        have s12 := pl1.c2
        clear pl1
        obtain ⟨⟨a2, n2, c2⟩, y2, run2, pl2⟩ := P1.out.app (by simp) 7 b
        have P2 := hid pl2
        have s20 := pl2.c0
        have s21 := pl2.c1
        have s22 := pl2.c2
        clear pl2
        have HFIN := hid (P2.out.fin (by simp) (by rw [← HLL.out]; exact HF4.out))
        rw [← HLL.out] at HFIN
        dsimp only [nilS] at run1 run2
        go_wp2_with (first | (go_at_call 36; refine HFIN.out.mono ?_; rintro e w9 ⟨⟨za, zn, zc⟩, rfl, hz⟩; have HZ := hid hz; clear hz) | (at_builtin; first | (refine Lib.wpList_append_run _ rfl _ _ _ _ rfl _ _ rfl rfl _ _ run1 ?_; clear run1) | (refine Lib.wpList_append_run _ rfl _ _ _ _ rfl _ _ rfl rfl _ _ run2 ?_; clear run2)))
        go_ret2
        exact ⟨⟨za, zn, zc⟩, rfl, HZ.out⟩
      · have hlb : (l != -1) = true := by simp [hl]
        have HLL := hid (show LL = [] ++ [1, c] ++ [7, b] ++ [6, l] from by rw [HE.out]; simp [hc, hb, hl])
        clear HE hc hb hl
        obtain ⟨⟨a1, n1, c1⟩, y1, run1, pl1⟩ := H0.out.app (by simp) 1 c
        have P1 := hid pl1
        have s10 := pl1.c0
        have s11 := pl1.c1
        have s12 := pl1.c2
        clear pl1
        obtain ⟨⟨a2, n2, c2⟩, y2, run2, pl2⟩ := P1.out.app (by simp) 7 b
        have P2 := hid pl2
        have s20 := pl2.c0
        have s21 := pl2.c1
        have s22 := pl2.c2
        clear pl2
        obtain ⟨⟨a3, n3, c3⟩, y3, run3, pl3⟩ := P2.out.app (by simp) 6 l
        have P3 := hid pl3
        have s30 := pl3.c0
        have s31 := pl3.c1
        have s32 := pl3.c2
        clear pl3
        have HFIN := hid (P3.out.fin (by simp) (by rw [← HLL.out]; exact HF4.out))
        rw [← HLL.out] at HFIN
        dsimp only [nilS] at run1 run2 run3
        go_wp2_with (first | (go_at_call 36; refine HFIN.out.mono ?_; rintro e w9 ⟨⟨za, zn, zc⟩, rfl, hz⟩; have HZ := hid hz; clear hz) | (at_builtin; first | (refine Lib.wpList_append_run _ rfl _ _ _ _ rfl _ _ rfl rfl _ _ run1 ?_; clear run1) | (refine Lib.wpList_append_run _ rfl _ _ _ _ rfl _ _ rfl rfl _ _ run2 ?_; clear run2) | (refine Lib.wpList_append_run _ rfl _ _ _ _ rfl _ _ rfl rfl _ _ run3 ?_; clear run3)))
        go_ret2
        exact ⟨⟨za, zn, zc⟩, rfl, HZ.out⟩
end Go.Proofs.Ytdlefmlienfjhaa
