/-
  What the law's own awake answers: true. A contract that the statements' walks use.
-/
import Derived.Test.YtbbpcaeacfhilaaEnc
import Derived.Lib.SlBytesConst
namespace Go.Proofs.Ytbbpcaeacfhilaa
open Go.RowKit
set_option linter.unusedVariables false
set_option maxRecDepth 100000

theorem seg_one (w : World) (v : Int) (fr : Nat × Nat) : Seg (w.alloc (.cells #[.int .u8 v] 5 fr)) (some ⟨w.heap.size, 0, none⟩) [v] := by
  intro _
  refine ⟨w.heap.size, 0, rfl, fun i hi => ?_⟩
  have hb : (w.alloc (.cells #[.int .u8 v] 5 fr)).heap[w.heap.size]? = some (.cells #[.int .u8 v] 5 fr) := heap_alloc_new w _
  obtain rfl : i = 0 := by simpa using hi
  rw [cell_of_row _ _ _ _ 5 fr hb]
  rfl
theorem enc_a : hE [97] = [31] := by decide +kernel
theorem siz_a : hM (hN [97]) = 1 := by decide +kernel
set_option maxHeartbeats 4000000 in
theorem awake_any (w : World) : Calls Try.prog 11 #[] w fun e w' => e = .returned (.bool true) ∧ Q w w' := by
  have HEN := hid (fun (W : World) => encode_any (some ⟨W.heap.size, 0, none⟩) 1 1 [97] (W.alloc (.cells #[.int .u8 97] 5 (1, 2))) rfl (by omega) (by decide) (seg_one W 97 _))
  have HSI := hid (fun (W : World) => size_any (some ⟨W.heap.size, 0, none⟩) 1 1 [97] (W.alloc (.cells #[.int .u8 97] 5 (1, 2))) rfl (by omega) (by decide) (seg_one W 97 _))
  have kcv : ∀ W : World, (convert 22 22 (.slice (some ⟨W.heap.size, 0, none⟩) 1 1)).run Try.prog (W.alloc (.cells #[.int .u8 97] 5)) = .ok (.slice (some ⟨W.heap.size, 0, none⟩) 1 1) (W.alloc (.cells #[.int .u8 97] 5 (1, 2))) := fun W => Lib.run_convert_bytes_const (P := Try.prog) W 22 5 #[.int .u8 97] 1 1 Try.underlying22 Try.underlying5
  simp only [enc_a, siz_a] at HEN HSI
  go_enter Try.func11, Try.ntmps11
  go_wp2_with (go_at_call 10; refine (HEN.out w).mono ?_; rintro e w1 ⟨g, m, cc, rfl, q1, r1, hg⟩; have hm := Row.len r1; simp at hm; subst hm; have c0 := (Row.seg r1) (by simp); obtain ⟨b0, o0, e0, c1⟩ := c0; simp only [Option.some.injEq, Addr.mk.injEq, and_true] at e0; obtain ⟨rfl, rfl⟩ := e0; have c2 := c1 0 (by simp); simp at c2; have Q1 := hid (Q.trans ((Q.refl w).alloc _) q1); clear q1 r1 c1 hg)
  refine (HSI.out w1).mono ?_
  rintro e w2 ⟨rfl, q2⟩
  have Q2 := hid (Q1.out.trans (Q.trans ((Q.refl w1).alloc _) q2))
  clear q2
  go_wp2
  go_ret
  exact ⟨rfl, Q2.out⟩
end Go.Proofs.Ytbbpcaeacfhilaa
