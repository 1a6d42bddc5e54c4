/-
  What a side still lacks of a message: missing.
-/
import Derived.Test.YtekpepnonhbkcaaShY
import Derived.Deep.RegionWith
namespace Go.Proofs.Ytekpepnonhbkcaa
open Go.RowKit
set_option linter.unusedVariables false
set_option maxRecDepth 20000

/-- How many bytes are missing behind these. -/
def lack (zs : List Int) : Int := if zs.length < 4 then 4 - zs.length else 4 + bsz zs - zs.length
set_option maxHeartbeats 4000000 in
theorem missing_any (sb : Nat) (S : Sh) (zs : List Int) (w : World) (h : ShAt w sb S) (hl : zs.length = S.kept.n) (hn : S.kept.n ≤ 140737488355328) (hz : ∀ y ∈ zs, 0 ≤ y ∧ y < 256) (hs : Seg w S.kept.a zs) :
    Calls Try.prog 38 #[.pointer (some ⟨sb, 0, none⟩)] w fun e w' => e = .returned (.int .i64 (lack zs)) ∧ ∃ k, w' = w.drewN k := by
  have ck := h.kept
  clear h
  generalize S.kept = kv at *
  obtain ⟨a, n, cc⟩ := kv
  dsimp only at ck hl hn hs ⊢
  by_cases h4 : n < 4
  · rw [show lack zs = 4 - (n : Int) from by unfold lack; rw [if_pos (by omega), hl]]
    have hi : (n : Int) < 4 := by omega
    clear hz hs hl
    go_enter Try.func38, Try.ntmps38
    go_wp2
    go_ret
    exact ⟨rfl, 0, rfl⟩
  · rw [show lack zs = 4 + bsz zs - (n : Int) from by unfold lack; rw [if_neg (by omega), hl]]
    have hi : ¬ (n : Int) < 4 := by omega
    obtain ⟨b, o, rfl, hc⟩ := hs (by intro e; rw [e] at hl; simp at hl; omega)
    have HB := hid (fun k => bodySize_any b o n cc zs (w.drewN k) hl (by omega) hn hz (fun i hi => hc i (by omega)))
    have hb : 0 ≤ bsz zs ∧ bsz zs < 16777216 := by
      have := getD_byte hz 1; have := getD_byte hz 2; have := getD_byte hz 3
      unfold bsz; omega
    clear hz hl hc
    generalize bsz zs = B at *
    go_enter Try.func38, Try.ntmps38
    go_wp2
    go_quiet ((go_at_call 58; exact Calls.quiet_of (HB.out _)))
    go_wp2
    go_ret
    exact ⟨rfl, _, rfl⟩
end Go.Proofs.Ytekpepnonhbkcaa
