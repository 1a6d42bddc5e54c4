/-
  The law's own awake answers true and turns nothing that was there.
-/
import Derived.Test.YtdoodbaogmdloabRaTwo
import Derived.Lib.SlBytesConst
import Derived.Laws.BytesArg
namespace Go.Proofs.Ytdoodbaogmdloab
open Go.RowKit
set_option linter.unusedVariables false
set_option maxRecDepth 20000

def hiF : Fr := ⟨8, 4, 0, 0, 0, true, [104, 105], [], [], 0, 0, 0, 0⟩
def pingF : Fr := ⟨1, 0, 0, 0, 0, false, [], [], [], 0, 0, 0, 0⟩
theorem aw_chk : chk hiF = 0 := by decide
theorem aw_enc : enc hiF = [11, 4, 2, 104, 105] := by decide
theorem aw_dec : decA [1] = ([pingF], 0, 0) := by rfl

set_option maxHeartbeats 2000000 in
theorem awake_any (w : World) : Calls Try.prog 9 #[] w fun e w' => e = .returned (.bool true) ∧ Q w w' := by
  have kc := Lib.run_convert_bytes_const (P := Try.prog) w 22 5 #[.int .u8 104, .int .u8 105] 2 2 Try.underlying22 Try.underlying5
  go_enter Try.func9, Try.ntmps9
  go_wp2_with fail
  generalize hw1 : World.alloc w _ = w1
  have q1 : Q w w1 := by rw [← hw1]; exact (Q.refl w).alloc _
  have hs1 : Seg w1 (some ⟨w.heap.size, 0, none⟩) [104, 105] := by
    intro _
    refine ⟨w.heap.size, 0, rfl, fun i hi => ?_⟩
    have : i = 0 ∨ i = 1 := by simp at hi; omega
    rcases this with rfl | rfl <;> (rw [← hw1, cell_of_row _ _ _ _ 5 _ (heap_alloc_new w _)]; rfl)
  clear hw1
  refine (encode_any hiF ⟨some ⟨w.heap.size, 0, none⟩, 2, 2⟩ nilS nilS w1 ⟨rfl, hs1, rfl, seg_nil _ _, rfl, fun h => absurd rfl h⟩ (by show 2 ≤ _; omega) (by show 0 ≤ _; omega)).mono ?_
  rintro e w2 ⟨r, rfl, m1⟩
  rw [aw_chk, if_pos rfl, aw_enc] at m1
  rw [aw_chk]
  have M1 := hid m1
  have Q1 := hid q1
  clear m1 q1 hs1
  go_wp2_with fail
  generalize hw3 : World.alloc w2 _ = w3
  have q3 : Q w2 w3 := by rw [← hw3]; exact (Q.refl w2).alloc _
  have hs3 : Seg w3 (some ⟨w2.heap.size, 0, none⟩) [1] := by rw [← hw3]; exact seg_new w2 [1]
  clear hw3
  refine (decode_any ⟨some ⟨w2.heap.size, 0, none⟩, 1, 1⟩ [1] w3 rfl (by intro y hy; simp at hy; omega) hs3 (by show 1 ≤ _; omega)).mono ?_
  rintro e w4 ⟨x, fds, rfl, hq4, hf, hm⟩
  rw [aw_dec] at hm ⊢
  have hlen := hf.len
  have hl1 : fds.length = 1 := by have := congrArg List.length hm; simpa using this
  obtain ⟨⟨f1, d1, c1, s1⟩, hfd⟩ : ∃ t, fds = [t] := List.length_eq_one_iff.1 hl1
  subst hfd
  simp only [List.map_cons, List.map_nil, List.cons.injEq, and_true] at hm
  subst hm
  obtain ⟨xa, xn, xc⟩ := x
  have hx1 : xn = 1 := by simpa using hlen.symm
  subst hx1
  obtain ⟨g', off', ha, hfz, hc⟩ := hf.sub.some_ (by show 0 < 1; omega)
  dsimp only at ha
  subst ha
  have k0 : w4.cell? ⟨g', off', none⟩ = some (.int .i64 1) := hc 0 (.int .i64 1) rfl
  have hr5 := M1.out.2.1.q (q3.trans hq4)
  have hn5 := Row.len hr5
  obtain ⟨ra, rn, rc⟩ := r
  have hn6 : rn = 5 := by simpa using hn5.symm
  subst hn6
  obtain ⟨gb, ob, hab, _, hcb⟩ := hr5.some_ (by show 0 < 5; omega)
  dsimp only at hab
  subst hab
  have hcell : ∀ i, i < [11, 4, 2, 104, 105].length → w4.cell? ⟨gb, ob + i, none⟩ = some (.int .u8 (([11, 4, 2, 104, 105] : List Int).getD i 0)) := fun i hi => hcb i _ (by rw [List.getElem?_map, List.getD_eq_getElem?_getD, List.getElem?_eq_getElem (by simpa using hi)]; rfl)
  have hcv := run_convert_bytes_arg (P := Try.prog) w4 22 5 Try.underlying22 Try.underlying5 gb ob 5 rc [11, 4, 2, 104, 105] rfl (fun i hi => hcell i hi) 9 Try.underlying9
  have hst : strOfNums [11, 4, 2, 104, 105] = ⟨#[11, 4, 2, 104, 105]⟩ := rfl
  rw [hst] at hcv
  have HQ := hid (show Q w w4 from Q1.out.trans (M1.out.1.trans (q3.trans hq4)))
  clear hq4 hf hlen hl1 hc hfz hr5 hn5 hcb hcell hst q3 hs3 M1 Q1
  go_wp2
  go_ret
  exact ⟨by first | rfl | simp, HQ.out⟩
end Go.Proofs.Ytdoodbaogmdloab
