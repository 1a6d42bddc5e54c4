/-
  What the document's own Text, word and tag do: contracts that the statements' walks use.
-/
import Derived.Test.YtnnjogfpapndaaaJoin
import Derived.Test.YtnnjogfpapndaaaRDig
namespace Go.Proofs.Ytnnjogfpapndaaa
open Go.RowKit
set_option linter.unusedVariables false
set_option maxRecDepth 20000

theorem Row.in_ {w : World} {x : Sv} {zs : List Int} (h : Row w x zs) (hz : ∀ y ∈ zs, 0 ≤ y ∧ y < 256) : In w x zs := ⟨h.seg, Row.len h, hz⟩
set_option maxHeartbeats 4000000 in
theorem rtext_any (x : Sv) (zs : List Int) (w : World) (hx : In w x zs) (hn : x.n ≤ 900000) :
    Calls Try.prog 73 #[.slice x.a x.n x.c] w fun e w' => ∃ y : Sv, e = .returned (.slice y.a y.n y.c) ∧ Q w w' ∧ In w' y (tx zs) := by
  obtain ⟨xa, xn, xc⟩ := x
  have HX := hid hx
  clear hx
  dsimp only at *
  go_enter Try.func73, Try.ntmps73
  go_wp2_with fail
  generalize hw1 : World.alloc w _ = w1
  have q1 : Q w w1 := by rw [← hw1]; exact (Q.refl w).alloc _
  have s1 : Seg w1 (some ⟨w.heap.size, 0, none⟩) [(xn : Int) % 256] := by rw [← hw1]; exact seg_lit1 w _
  have e1 : w1.heap.size = w.heap.size + 1 := by rw [← hw1]; simp
  clear hw1
  generalize w.heap.size = og at *
  generalize hw2 : World.alloc w1 _ = w2
  have q2 : Q w1 w2 := by rw [← hw2]; exact (Q.refl w1).alloc _
  have c2 : ∀ j, j < 2 → w2.cell? ⟨og + 1, j, none⟩ = some (.slice (two ⟨some ⟨og, 0, none⟩, 1, 1⟩ ⟨xa, xn, xc⟩ j : Sv).a (two ⟨some ⟨og, 0, none⟩, 1, 1⟩ ⟨xa, xn, xc⟩ j : Sv).n (two ⟨some ⟨og, 0, none⟩, 1, 1⟩ ⟨xa, xn, xc⟩ j : Sv).c) := by
    intro j hj
    rw [← hw2, ← e1, cell_lit]
    rcases (show j = 0 ∨ j = 1 by omega) with rfl | rfl <;> rfl
  clear hw2
  refine (join_any (og + 1) 2 2 (two ⟨some ⟨og, 0, none⟩, 1, 1⟩ ⟨xa, xn, xc⟩) (two [(xn : Int) % 256] zs) w2 c2 (by
      intro j hj
      rcases (show j = 0 ∨ j = 1 by omega) with rfl | rfl
      · exact ⟨s1.q q2, rfl⟩
      · exact ⟨(HX.out.s.q q1).q q2, HX.out.l⟩) (by omega) (by
      have h1 : zs.length = xn := HX.out.l
      show ([] ++ [(xn : Int) % 256] ++ zs).length ≤ 1000000
      simp [h1]; omega)).mono ?_
  rintro e w3 ⟨y, rfl, q3, r3, n3⟩
  have Q3 := hid ((q1.trans q2).trans q3)
  have R3 := hid (show Row w3 y (tx zs) from by
    have h1 : zs.length = xn := HX.out.l
    have : cat (two [(xn : Int) % 256] zs) 2 = tx zs := by show [] ++ [(xn : Int) % 256] ++ zs = _; unfold tx; rw [h1]; rfl
    rw [← this]; exact r3)
  clear q1 q2 q3 r3 n3 s1 c2 e1
  go_wp2
  go_ret
  exact ⟨y, rfl, Q3.out, R3.out.in_ (tx_lt HX.out.z)⟩

/-- Join of pieces that the caller lays in a row. -/
abbrev pcs (xs : List Sv) : Array Value := (xs.map fun x => Value.slice x.a x.n x.c).toArray
theorem cat_flat (zss : List (List Int)) (m : Nat) : cat (fun j => zss.getD j []) m = (zss.take m).flatten := by
  induction m with
  | zero => rfl
  | succ m ih =>
    show cat _ m ++ zss.getD m [] = _
    rw [ih, List.take_add_one, List.flatten_append]
    congr 1
    rw [List.getD_eq_getElem?_getD]
    cases zss[m]? <;> simp
theorem join_lit (w : World) (xs : List Sv) (zss : List (List Int)) (hl : zss.length = xs.length) (h : ∀ j, j < xs.length → In w (xs.getD j nilS) (zss.getD j [])) (hm : xs.length ≤ 100) (ht : zss.flatten.length ≤ 1000000) :
    Calls Try.prog 29 #[.slice (some ⟨w.heap.size, 0, none⟩) xs.length xs.length] (w.alloc (.cells (pcs xs) 22)) fun e w' => ∃ x : Sv, e = .returned (.slice x.a x.n x.c) ∧ Q w w' ∧ In w' x zss.flatten ∧ Row w' x zss.flatten ∧ New w.heap.size x := by
  have q : Q w (w.alloc (.cells (pcs xs) 22)) := (Q.refl w).alloc _
  have e : cat (fun j => zss.getD j []) xs.length = zss.flatten := by rw [cat_flat, ← hl, List.take_length]
  refine (join_any w.heap.size xs.length xs.length (fun j => xs.getD j nilS) (fun j => zss.getD j []) _ (by
      intro j hj
      rw [cell_lit]
      simp [List.getD_eq_getElem?_getD, hj]) (fun j hj => ⟨(h j hj).s.q q, (h j hj).l⟩) hm (by rw [e]; exact ht)).mono ?_
  rintro r w1 ⟨x, rfl, q1, r1, n1⟩
  rw [e] at r1
  refine ⟨x, rfl, q.trans q1, ⟨r1.seg, Row.len r1, ?_⟩, r1, n1.mono q.size⟩
  intro y hy
  obtain ⟨zs, hzs, hy⟩ := List.mem_flatten.1 hy
  obtain ⟨j, hj, rfl⟩ := List.getElem_of_mem hzs
  have := (h j (by omega)).z
  rw [List.getD_eq_getElem?_getD, List.getElem?_eq_getElem hj] at this
  exact this y hy

set_option maxHeartbeats 4000000 in
theorem rword_any (n : Int) (w : World) (h0 : 0 ≤ n) (h1 : n ≤ 1000000) :
    Calls Try.prog 74 #[.int .i64 n] w fun e w' => ∃ y : Sv, e = .returned (.slice y.a y.n y.c) ∧ Q w w' ∧ In w' y (wrd n) := by
  have HN := hid h1
  have HW := hid (show wrd n = [n / 16777216 % 256, n / 65536 % 256, n / 256 % 256, n % 256] from rfl)
  clear h1
  have d1 : n.tdiv 16777216 = n / 16777216 := Int.tdiv_eq_ediv_of_nonneg h0
  have d2 : n.tdiv 65536 = n / 65536 := Int.tdiv_eq_ediv_of_nonneg h0
  have d3 : n.tdiv 256 = n / 256 := Int.tdiv_eq_ediv_of_nonneg h0
  have e1 : wrap64 (n / 16777216) = n / 16777216 := by have := HN.out; unfold wrap64; omega
  have e2 : wrap64 (n / 65536) = n / 65536 := by have := HN.out; unfold wrap64; omega
  have e3 : wrap64 (n / 256) = n / 256 := by have := HN.out; unfold wrap64; omega
  go_enter Try.func74, Try.ntmps74
  go_wp2
  go_ret
  refine ⟨⟨some ⟨w.heap.size, 0, none⟩, 4, 4⟩, rfl, (Q.refl w).alloc _, ?_⟩
  have hs := seg_lit w (wrd n)
  exact ⟨hs, rfl, wrd_lt n⟩
end Go.Proofs.Ytnnjogfpapndaaa
