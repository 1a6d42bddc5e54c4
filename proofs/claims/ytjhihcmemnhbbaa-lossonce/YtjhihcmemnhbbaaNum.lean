/-
  What numbers answers; append over the beginning of a row that is read on: contracts that the statements' walks use.
-/
import Derived.Test.YtjhihcmemnhbbaaApp
import Derived.Deep.OwnRows
namespace Go.Proofs.Ytjhihcmemnhbbaa
open Go.RowKit
set_option linter.unusedVariables false
set_option maxRecDepth 20000

theorem made_row {w : World} {n : Nat} (hn : n ≤ maxLen) : RowI (w.alloc (.cells (madeCells #[.int .i64 0] n) 3)) ⟨some ⟨w.heap.size, 0, none⟩, n, n⟩ (List.replicate n 0) := by
  refine ⟨by simp, .inr ⟨w.heap.size, 0, madeCells #[.int .i64 0] n, rfl, heap_alloc_new w _, Nat.le_refl _, hn, ?_, fun j hj => ?_⟩⟩
  · simp [madeCells]
  · simp only [Nat.mul_one] at hj
    simp [madeCells, hj, Nat.mod_one]

set_option maxHeartbeats 1000000 in
theorem numbers_any {w : World} {d : Sv} {l : List Pk} (ht : RowP w d l) (hf : l.length ≤ 100000) : Calls Try.prog 33 #[.slice d.a d.n d.c] w fun e w' => ∃ x : Sv, e = .returned (.slice x.a x.n x.c) ∧ RowI w' x (l.map (·.n)) ∧ Q w w' ∧ ∀ b, blk x.a = some b → w.heap.size ≤ b := by
  have hl := ht.len
  obtain ⟨a, n, cc⟩ := d
  simp only at hl
  have HT := hid ht
  have HL := hid hl
  have hn : n ≤ 100000 := by omega
  have hmk := run_make_row' (P := Try.prog) 44 3 (.int .i64 0) 8 Try.underlying44 info3 rfl .i64 .i64 n (by omega) (by omega)
  have R0 := hid (made_row (w := w) (n := n) (by unfold maxLen; omega))
  clear ht hl hf
  go_enter Try.func33, Try.ntmps33
  go_wp2
  go_loopw [11] (fun i wr => ∃ j : Nat, j ≤ n ∧ i = .int .i64 j ∧ RowI wr ⟨some ⟨w.heap.size, 0, none⟩, n, n⟩ ((l.take j).map (·.n) ++ List.replicate (n - j) 0) ∧ Q w wr) (fun i _ => n - (intOf i).toNat)
  case atStart => exact ⟨0, Nat.zero_le _, rfl, by simpa using R0.out, (Q.refl w).alloc _⟩
  case round =>
    obtain ⟨j, hj, rfl, hr, hq⟩ := hrel
    by_cases hlt : j < n
    · have hlt' : (j : Int) < (n : Int) := by omega
      obtain ⟨g, o2, rfl, _, hs⟩ := RowP.at_ (d := ⟨a, n, cc⟩) (l := l) (HT.out.q hq) (k := j) hlt
      have c0 := hs.c0
      have c1 := hs.c1
      have c2 := hs.c2
      have c3 := hs.c3
      have hwi : IntKind.i64.wrap ((j : Int) + 1) = ((j + 1 : Nat) : Int) := by rw [IntKind.wrap_i64]; omega
      have hqa : Q wr (wr.alloc (.cells #[.int .i64 (l.getD j noPk).n, .int .i64 (l.getD j noPk).s, .int .i64 (l.getD j noPk).a, .bool (l.getD j noPk).e] 73)) := (Q.refl wr).alloc _
      have hra := Sub.q hr hqa
      have hset := Sub.set hra (g := w.heap.size) (off := 0) rfl (j := j) (by simp only [Nat.mul_one]; exact hlt) (.int .i64 (l.getD j noPk).n)
      rw [Nat.zero_add] at hset
      obtain ⟨gg, oo, e1, hfz, hcc⟩ := hra.some_ (show 0 < n by omega)
      simp only [Option.some.injEq, Addr.mk.injEq, and_true] at e1
      obtain ⟨rfl, rfl⟩ := e1
      have f1 := hfz j
      have cj := hcc j (.int .i64 0) (by
        have h1 : ((l.take j).map (·.n)).length = j := by simp [HL.out]; omega
        have h2 : ((l.take j).map (·.n) ++ List.replicate (n - j) (0 : Int))[j]? = some 0 := by
          rw [List.getElem?_append_right (by rw [h1]; omega), h1, Nat.sub_self, List.getElem?_replicate, if_pos (by omega)]
        rw [List.getElem?_map, h2]; rfl)
      rw [Nat.zero_add] at cj
      have REL := hid (show RowI ((wr.alloc (.cells #[.int .i64 (l.getD j noPk).n, .int .i64 (l.getD j noPk).s, .int .i64 (l.getD j noPk).a, .bool (l.getD j noPk).e] 73)).setCell ⟨w.heap.size, j, none⟩ (.int .i64 (l.getD j noPk).n)) ⟨some ⟨w.heap.size, 0, none⟩, n, n⟩ ((l.take (j + 1)).map (·.n) ++ List.replicate (n - (j + 1)) 0) from by
        show Sub _ _ _ _ _ _ (i64s _)
        have e2 : i64s ((l.take (j + 1)).map (·.n) ++ List.replicate (n - (j + 1)) 0) = (i64s ((l.take j).map (·.n) ++ List.replicate (n - j) 0)).set j (.int .i64 (l.getD j noPk).n) := by
          rw [← List.map_set]
          congr 1
          have h1 : ((l.take j).map (·.n)).length = j := by simp [HL.out]; omega
          rw [List.set_append_right _ _ (by rw [h1]; omega), h1, Nat.sub_self, take_succ_at (d := noPk) (by rw [HL.out]; exact hlt), show n - j = (n - (j + 1)) + 1 by omega, List.replicate_succ]
          simp
        rw [e2]; exact hset)
      have KQ := hid (show Q w ((wr.alloc (.cells #[.int .i64 (l.getD j noPk).n, .int .i64 (l.getD j noPk).s, .int .i64 (l.getD j noPk).a, .bool (l.getD j noPk).e] 73)).setCell ⟨w.heap.size, j, none⟩ (.int .i64 (l.getD j noPk).n)) from
        ((Keep.ofQ (F := fun b => w.heap.size ≤ b) (hq.alloc _)).setCell _ j _ (.inl (Nat.le_refl _))).toQ (fun i hi e => by omega))
      clear hs hq hr hqa hra hset hfz hcc
      generalize l.getD j noPk = p at *
      go_wp2
      go_roundw
      case rel => exact ⟨j + 1, by omega, by go_num, REL.out, KQ.out⟩
      case measure => simp [intOf]; omega
    · obtain rfl : j = n := by omega
      have HQ := hid hq
      have HR := hid (show RowI wr ⟨some ⟨w.heap.size, 0, none⟩, j, j⟩ (l.map (·.n)) from by
        rw [List.take_of_length_le (by rw [HL.out]; exact Nat.le_refl _), Nat.sub_self] at hr
        simpa using hr)
      clear hj hlt hq hr
      go_wp2
      go_ret
      exact ⟨⟨some ⟨w.heap.size, 0, none⟩, j, j⟩, rfl, HR.out, HQ.out, fun b hb => by simp [blk] at hb; omega⟩

/-- append where there is room, over the beginning of a row whose other cells stay. -/
theorem sub_over {w : World} {e size g off n cap K m : Nat} {cur : Array Value} {vs news : List Value} (h : vs.length = n * size) (hln : news.length = m * size) (hg : w.heap[g]? = some (.cells cur e (0, 0))) (hK : K + m ≤ n) (h1 : n ≤ cap) (h2 : cap ≤ maxLen) (h3 : off + cap * size ≤ cur.size) (h4 : ∀ j, j < n * size → cur[off + j]? = vs[j]?) :
    Sub (w.setRow g (cur.toList.take (off + K * size) ++ news ++ cur.toList.drop (off + K * size + news.length)).toArray) e size (some ⟨g, off, none⟩) n cap (vs.take (K * size) ++ news ++ vs.drop (K * size + news.length)) := by
  have hcm := Nat.mul_le_mul_right size hK
  have hcn := Nat.mul_le_mul_right size h1
  rw [Nat.add_mul] at hcm
  have hlt : (cur.toList.take (off + K * size)).length = off + K * size := by simp; omega
  have hlv : (vs.take (K * size)).length = K * size := by simp; omega
  refine ⟨?_, .inr ⟨g, off, _, rfl, (keep_row hg _).2, h1, h2, ?_, fun j hj => ?_⟩⟩
  · simp only [List.length_append, hlv, List.length_drop, h]; omega
  · simp only [List.size_toArray, List.length_append, hlt, List.length_drop, Array.length_toList]; omega
  · simp only [List.getElem?_toArray]
    by_cases hj1 : j < K * size
    · rw [List.getElem?_append_left (by rw [List.length_append, hlt]; omega), List.getElem?_append_left (by rw [hlt]; omega), List.getElem?_append_left (by rw [List.length_append, hlv]; omega), List.getElem?_append_left (by rw [hlv]; omega), List.getElem?_take, if_pos (by omega), List.getElem?_take, if_pos hj1, ← h4 j hj]
      simp
    · by_cases hj2 : j < K * size + news.length
      · rw [List.getElem?_append_left (by rw [List.length_append, hlt]; omega), List.getElem?_append_right (by rw [hlt]; omega), List.getElem?_append_left (by rw [List.length_append, hlv]; omega), List.getElem?_append_right (by rw [hlv]; omega), hlt, hlv]
        congr 1; omega
      · rw [List.getElem?_append_right (by rw [List.length_append, hlt]; omega), List.getElem?_append_right (by rw [List.length_append, hlv]; omega), List.getElem?_drop, List.getElem?_drop, List.length_append, hlt, List.length_append, hlv]
        rw [show K * size + news.length + (j - (K * size + news.length)) = j by omega, ← h4 j hj, show off + K * size + news.length + (off + j - (off + K * size + news.length)) = off + j by omega]
        simp

/-- .. of one packet. -/
theorem rowP_over {w : World} {d : Sv} {K R : List Pk} (p x : Pk) (h : RowP w d (K ++ x :: R)) :
    ∃ w', (Builtin.append_ #[59, 59] 59 #[.slice d.a K.length d.c, .slice (some ⟨w.heap.size, 0, none⟩) 1 1]).run Try.prog (w.alloc (.cells #[.int .i64 p.n, .int .i64 p.s, .int .i64 p.a, .bool p.e] 73)) = .ok (.slice d.a (K.length + 1) d.c) w' ∧ RowP w' d (K ++ p :: R) ∧ Keep (fun b => blk d.a = some b) w w' := by
  obtain ⟨i0, hi, hz0, hz1, hz2⟩ := info_parts info73
  have hl := h.len
  have hq : Q w (w.alloc (.cells #[.int .i64 p.n, .int .i64 p.s, .int .i64 p.a, .bool p.e] 73)) := (Q.refl w).alloc _
  have hg0 : (w.alloc (.cells #[.int .i64 p.n, .int .i64 p.s, .int .i64 p.a, .bool p.e] 73)).heap[w.heap.size]? = some (.cells #[.int .i64 p.n, .int .i64 p.s, .int .i64 p.a, .bool p.e] 73 (0, 0)) := heap_alloc_new w _
  have hsrc : ∀ j u, (pcl p)[j]? = some u → (w.alloc (.cells #[.int .i64 p.n, .int .i64 p.s, .int .i64 p.a, .bool p.e] 73)).cell? ((⟨w.heap.size, 0, none⟩ : Addr).add j) = some u := by
    intro j u hj
    rw [addr_add, cell_of_row _ _ _ _ 73 (0, 0) hg0, Nat.zero_add]
    simpa [pcl] using hj
  have hs := Src.ofSlice (size := 4) _ Try.underlying59 ⟨w.heap.size, 0, none⟩ 1 1 (pcl p) rfl hsrc (pcl_one p)
  obtain ⟨a, n, c⟩ := d
  have hl' : K.length + (R.length + 1) = n := by simpa using hl
  have hq2 := Sub.q h hq
  rcases hq2.2 with ⟨_, h1, _⟩ | ⟨g, off, cur, rfl, hg, h1, h2, h3, h4⟩
  · simp only at h1; omega
  · simp only at hg h1 h2 h3 h4 ⊢
    have hfit : off + K.length * 4 + (pcl p).length ≤ cur.size := by
      have := Nat.mul_le_mul_right 4 h1
      rw [pcl_len]; omega
    have hr := run_append_in (P := Try.prog) _ 59 59 59 73 i0 Try.underlying59 hi g off K.length c (.slice (some ⟨w.heap.size, 0, none⟩) 1 1) 1 (pcl p) (by rw [hz1]; exact hs) cur hg (by omega) (by rw [hz1]; exact hfit)
    rw [hz1] at hr
    refine ⟨_, hr, ?_, (Keep.ofQ hq).trans ((keep_row hg _).1.atRow)⟩
    have hS := sub_over (m := 1) (n := n) (K := K.length) h.1 (pcl_len p) hg (by omega) h1 h2 h3 h4
    have e : (flt pcl (K ++ x :: R)).take (K.length * 4) ++ pcl p ++ (flt pcl (K ++ x :: R)).drop (K.length * 4 + (pcl p).length) = flt pcl (K ++ p :: R) := by
      have hk : (flt pcl K).length = K.length * 4 := flt_len pcl_len K
      rw [flt_append, flt_append, flt_cons, flt_cons, List.take_left' hk, ← List.drop_drop, List.drop_left' hk, pcl_len, List.drop_left' (pcl_len x)]
      simp
    show Sub _ _ _ _ _ _ (flt pcl (K ++ p :: R))
    rw [← e]
    exact hS
end Go.Proofs.Ytjhihcmemnhbbaa
