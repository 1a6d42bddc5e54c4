/-
  The law's awake: a contract that the statements' walks use.
-/
import Derived.Test.YtdlefmlienfjhaaHfI
import Derived.Laws.BytesArg
namespace Go.Proofs.Ytdlefmlienfjhaa
open Go.RowKit
set_option linter.unusedVariables false
set_option maxRecDepth 100000

theorem row_str {w : World} {x : Sv} {zs : List Int} (h : Row w x zs) (hn : 0 < x.n) : (convert 30 9 (.slice x.a x.n x.c)).run Try.prog w = .ok (.string (strOfNums zs)) w := by
  have hl := h.len
  obtain ⟨b, off, e, hc⟩ := h.seg (by intro e; rw [e] at hl; simp at hl; omega)
  rw [e]
  exact run_convert_bytes_arg (P := Try.prog) w 30 5 Try.underlying30 Try.underlying5 b off x.n x.c zs hl (fun i hi => hc i (by omega)) 9 (by kernel_rfl)
/-- A reader behind its first bytes. -/
def awG : Hf := ⟨1, 10, [], false, 1, false, 1, 0, false, 0⟩
theorem aw_next : nxtF (fdF (hf0 1 10) [1, 2, 97, 98]) = (some ⟨1, [97, 98], 0, 0, 0, 0⟩, awG) := by kernel_rfl
theorem aw_ok : Hok (fdF (hf0 1 10) [1, 2, 97, 98]) :=
  ⟨.inl rfl, by decide, by decide, by decide, (fun h => by cases h), by decide, by decide⟩
theorem aw_seg (w : World) : Seg (w.alloc (.cells #[.int .u8 1, .int .u8 2, .int .u8 97, .int .u8 98] 5)) (some ⟨w.heap.size, 0, none⟩) [1, 2, 97, 98] := by
  intro _
  refine ⟨w.heap.size, 0, rfl, fun i hi => ?_⟩
  rw [cell_of_row _ _ _ _ 5 (0, 0) (heap_alloc_new w _)]
  rcases (show i = 0 ∨ i = 1 ∨ i = 2 ∨ i = 3 by simp at hi; omega) with rfl | rfl | rfl | rfl <;> rfl
theorem aw_str : strOfNums [97, 98] = (⟨#[97, 98]⟩ : ByteArray) := by kernel_rfl
set_option maxHeartbeats 8000000 in
theorem awake_any (w : World) : Calls Try.prog 10 #[] w fun e w' => e = .returned (.bool true) ∧ Q w w' := by
  have HN := hid (new_ok 1 10 w ⟨.inl rfl, by decide, by decide⟩)
  go_enter Try.func10, Try.ntmps10
  go_wp2_with (first
    | (go_at_call 8; refine HN.out.mono ?_; rintro e w1 ⟨rfl, q1, h1⟩; have Q1 := hid q1; have H1 := hid h1; have hlt := h1.lt; clear q1 h1)
    | (go_at_call 12; refine (feed_any w.heap.size (hf0 1 10) nilS ⟨some ⟨w1.heap.size, 0, none⟩, 4, 4⟩ [1, 2, 97, 98] _ (H1.out.q ((Q.refl _).alloc _)) rfl (aw_seg w1) rfl (by decide)).mono ?_; rintro e w2 ⟨s2, rfl, h2, k2, n2⟩; have H2 := hid h2; have K2 := hid k2; have N2 := hid n2; clear h2 k2 n2)
    | (go_at_call 14; refine (next_any w.heap.size (fdF (hf0 1 10) [1, 2, 97, 98]) s2 _ H2.out aw_ok (by have := H2.out.len; rw [← this]; decide)).mono ?_; rintro e w3 ⟨s3, h3, k3, f3, ev, ⟨ya, yn, yc⟩, rfl, hx, _⟩; rw [aw_next] at hx; rw [aw_next]; obtain ⟨rfl, hrow, hnew⟩ := hx _ rfl; have R3 := hid hrow; have K3 := hid k3; have L3 := hid hnew; clear hx hrow hnew h3 k3 f3; refine Hid.out ?_))
  refine hid ?_
  have hyl : (2 : Nat) = yn := Row.len R3.out
  subst hyl
  have hst : ∀ o, (convert 30 9 (.slice ya 2 yc)).run Try.prog (w3.alloc o) = .ok (.string ⟨#[97, 98]⟩) (w3.alloc o) := fun o => by
    have := row_str (Sub.q R3.out ((Q.refl w3).alloc o)) (by show 0 < 2; decide)
    rw [aw_str] at this
    exact this
  have HQ := hid (show Q w w3 from (K2.out.trans' K3.out (fun i hi e => .inl e)).below (Q1.out.trans ((Q.refl _).alloc _)) (by have := Q1.out.size; simp; omega) (fun i e => by rcases e with e | e; omega; cases e))
  clear K2 K3 L3 N2
  go_wp2
  go_ret
  exact ⟨rfl, HQ.out.alloc _⟩
end Go.Proofs.Ytdlefmlienfjhaa
