/-
  Whether a message may begin so: checkHead.
-/
import Derived.Test.YtekpepnonhbkcaaShZ
namespace Go.Proofs.Ytekpepnonhbkcaa
open Go.RowKit
set_option linter.unusedVariables false
set_option maxRecDepth 20000

/-- What a head is answered by. -/
def headE (zs : List Int) (kd : Int)  : Int := if 4096 < bsz zs then 52 else if zs.getD 0 0 ≠ kd then 100 else 0
set_option maxHeartbeats 4000000 in
theorem checkHead_any (sb : Nat) (S : Sh) (zs : List Int) (wb wo : Nat) (kd : Int) (w : World) (h : ShAt w sb S) (hl : zs.length = S.kept.n) (h4 : 4 ≤ zs.length) (hn : S.kept.n ≤ 140737488355328) (hz : ∀ y ∈ zs, 0 ≤ y ∧ y < 256) (hs : Seg w S.kept.a zs) (hw : S.waits.a = some ⟨wb, wo, none⟩) (hwn : 1 ≤ S.waits.n) (hk : w.cell? ⟨wb, wo, none⟩ = some (.int .u8 kd)) :
    Calls Try.prog 59 #[.pointer (some ⟨sb, 0, none⟩)] w fun e w' => e = .returned (.int .i64 (headE zs kd)) ∧ ∃ k, w' = w.drewN k := by
  have ck := h.kept
  have cw := h.waits
  clear h
  rw [hw] at cw
  generalize S.waits = wv at *
  obtain ⟨wa, wn, wc⟩ := wv
  generalize S.kept = kv at *
  obtain ⟨a, n, cc⟩ := kv
  dsimp only at ck cw hl hn hs hw hwn ⊢
  clear hw
  obtain ⟨b, o, rfl, hc⟩ := hs (by intro e; rw [e] at hl; simp at hl; rw [e] at h4; simp at h4)
  have HB := hid (fun k => bodySize_any b o n cc zs (w.drewN k) hl (by omega) hn hz (fun i hi => hc i (by omega)))
  have c0 := hc 0 (by omega)
  rw [Nat.add_zero] at c0
  have z0 := getD_byte hz 0
  have k0 : (0 : Int) < n := by omega
  have k1 : (0 : Int) < wn := by omega
  have hb : 0 ≤ bsz zs ∧ bsz zs < 16777216 := by
    have := getD_byte hz 1; have := getD_byte hz 2; have := getD_byte hz 3
    unfold bsz; omega
  unfold headE
  clear hz hc hs hl h4
  generalize bsz zs = B at *
  generalize zs.getD 0 0 = Z at *
  by_cases hB : 4096 < B
  · rw [if_pos hB]
    go_enter Try.func59, Try.ntmps59
    go_wp2_with (go_at_call 58; refine (HB.out 0).mono ?_; rintro e w2 ⟨rfl, k, rfl⟩)
    go_ret
    exact ⟨rfl, _, rfl⟩
  · rw [if_neg hB]
    by_cases hZ : Z = kd
    · subst hZ
      rw [if_neg (by simp)]
      go_enter Try.func59, Try.ntmps59
      go_wp2_with (go_at_call 58; refine (HB.out 0).mono ?_; rintro e w2 ⟨rfl, k, rfl⟩)
      go_quiet (fail)
      go_wp2
      go_ret
      exact ⟨rfl, _, World.drewN_drewN ..⟩
    · rw [if_pos hZ]
      have hne : (Z != kd) = true := by simp [hZ]
      go_enter Try.func59, Try.ntmps59
      go_wp2_with (go_at_call 58; refine (HB.out 0).mono ?_; rintro e w2 ⟨rfl, k, rfl⟩)
      go_quiet (fail)
      go_wp2
      go_ret
      exact ⟨rfl, _, World.drewN_drewN ..⟩
end Go.Proofs.Ytekpepnonhbkcaa
