/-
  What the program's inner sendEnd answers and does: a contract that the walk of Next uses.
-/
import Derived.Test.YtppemfdoogmeeaaBuf
namespace Go.Proofs.Ytppemfdoogmeeaa
open Go.RowKit
set_option linter.unusedVariables false

theorem Bf.en {w : World} {rb : Nat} {d m : Sv} {room : Int} {s : S} (h : Bf w rb d m room s) : Bf (w.setCell ⟨rb, 6, none⟩ (.int .u8 1)) rb d m room (enS s true) :=
  ⟨by have := h.hd.end_ 1; exact this, by have := h.rs.hd 6 (.int .u8 1); exact this⟩
theorem enS_f (s : S) : enS s false = s := rfl

set_option maxHeartbeats 2000000 in
theorem sendEnd_any (rb : Nat) (d m : Sv) (room : Int) (s : S) (p : Nat) (w : World) (hB : Bf w rb d m room s) (hO : Ok room s) (hL : s.ms.length ≤ 4611686018427387904) :
    Calls Try.prog 27 #[.pointer (some ⟨rb, 0, none⟩), .int .i64 p] w fun e w' => e = .returned (.bool (eo s p)) ∧ Bf w' rb d m room (enS s (eo s p)) ∧ Keep (fun k => k = rb) w w' := by
  have c5 := hB.hd.c5
  have c6 := hB.hd.c6
  have HW := hid (written_any rb d m room s w hB hO hL)
  have HB := hid hB
  have e0 := hO.e0
  clear hB hO
  cases hf : s.fin
  · rw [hf] at c5
    have HE := hid (show eo s p = false from by unfold eo opn; rw [hf]; rfl)
    clear hf
    go_enter Try.func27, Try.ntmps27
    go_wp2
    go_ret
    exact ⟨ret_bool HE.out.symm, by rw [HE.out]; exact HB.out, Keep.refl _ _⟩
  · rw [hf] at c5
    have HF := hid hf
    clear hf
    by_cases ho : s.en = 0 ∨ s.en = 2
    · have HO := hid (show opn s = true from by unfold opn; rw [HF.out]; simpa using ho)
      by_cases hp : p = s.ms.length
      · have HE := hid (show eo s p = true from by unfold eo; rw [HO.out, hp]; simp)
        have hne : ((p : Int) != (s.ms.length : Int)) = false := by simp; omega
        rcases ho with he | he
        all_goals
          rw [he] at c6
          clear he hp
          go_enter Try.func27, Try.ntmps27
          go_wp2_with fail
          refine HW.out.mono ?_
          rintro e w1 ⟨rfl, k, rfl⟩
          have hb1 := HB.out.q ((Q.refl w).drewN k)
          have f6 := hb1.hd.free 6
          have c6' := hb1.hd.c6
          have HB1 := hid hb1.en
          have HK1 := hid (((Keep.refl (fun k => k = rb) w).drewN k).setCell rb 6 (.int .u8 1) (.inl rfl))
          clear hb1
          generalize w.drewN k = w1 at *
          go_wp2
          go_ret
          exact ⟨ret_bool HE.out.symm, by rw [HE.out]; exact HB1.out, HK1.out⟩
      · have HE := hid (show eo s p = false from by unfold eo; rw [HO.out]; simp [hp])
        have hne : ((p : Int) != (s.ms.length : Int)) = true := by simp; omega
        rcases ho with he | he
        all_goals
          rw [he] at c6
          clear he hp
          go_enter Try.func27, Try.ntmps27
          go_wp2_with fail
          refine HW.out.mono ?_
          rintro e w1 ⟨rfl, k, rfl⟩
          have HB1 := hid (HB.out.q ((Q.refl w).drewN k))
          have HK1 := hid (((Keep.refl (fun k => k = rb) w).drewN k))
          generalize w.drewN k = w1 at *
          go_wp2
          go_ret
          exact ⟨ret_bool HE.out.symm, by rw [HE.out]; exact HB1.out, HK1.out⟩
    · have HE := hid (show eo s p = false from by
        unfold eo opn; rw [HF.out]
        have h1 : ¬ s.en = 0 := fun h => ho (.inl h)
        have h2 : ¬ s.en = 2 := fun h => ho (.inr h)
        simp [h1, h2])
      have b1 : (s.en == 0) = false := by simp; exact fun h => ho (.inl h)
      have b2 : (s.en == 2) = false := by simp; exact fun h => ho (.inr h)
      clear ho e0
      go_enter Try.func27, Try.ntmps27
      go_wp2
      go_ret
      exact ⟨ret_bool HE.out.symm, by rw [HE.out]; exact HB.out, Keep.refl _ _⟩
end Go.Proofs.Ytppemfdoogmeeaa
