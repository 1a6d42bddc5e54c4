/-
  What the document's own Mask does with a key and a sample that are right: it tells new memory. A contract that the statements' walks use.
-/
import Derived.Test.YtihmlfpfpadfpaaRMask
import Derived.Test.YtihmlfpfpadfpaaRTurn
import Derived.Test.YtihmlfpfpadfpaaMask
namespace Go.Proofs.Ytihmlfpfpadfpaa
open Go.RowKit
set_option linter.unusedVariables false
set_option maxRecDepth 20000

set_option maxHeartbeats 4000000 in
theorem rmask_new (k s : Sv) (ks ss : List Int) (w : World) (hk : In w k ks) (hs : In w s ss) (bk : k.n ≤ 255) (bs : 16 ≤ s.n) (bs2 : s.n ≤ 140737488355328) (cs : s.n ≤ s.c) :
    Calls Try.prog 47 #[.slice k.a k.n k.c, .slice s.a s.n s.c] w fun e w' => ∃ g, e = .returned (.tuple #[.slice (some ⟨g, 0, none⟩) 5 16, .int .i64 0]) ∧ Q w w' ∧ In w' ⟨some ⟨g, 0, none⟩, 5, 16⟩ (mskL ks ss) ∧ w.heap.size ≤ g := by
  have HK := hid hk
  have HS := hid hs
  clear hk hs
  obtain ⟨ka, kn, kc⟩ := k
  obtain ⟨sa, sn, sc⟩ := s
  dsimp only at *
  have h1 : ¬ (255 : Int) < (kn : Int) := by omega
  have h2 : ¬ (sn : Int) < 16 := by omega
  have hsn : (16 : Int) ≤ (sn : Int) := by omega
  have hsc : (16 : Int) ≤ (sc : Int) := by omega
  have hkn : kn ≤ 255 := by omega
  have RT := hid (fun u (hu : Q w u) => rtext_any ⟨ka, kn, kc⟩ ks u (HK.out.q hu) (by show kn ≤ _; omega))
  have ST := hid (HS.out.take 16 sc (by show 16 ≤ sn; omega))
  have HLN := hid (show ([[3], tx ks, ss.take 16] : List (List Int)).flatten.length ≤ 1000000 from by
    have h1 : ks.length = kn := HK.out.l
    have h2 : (ss.take 16).length ≤ 16 := List.length_take_le 16 ss
    simp [tx, h1]; simp at h2; omega)
  go_enter Try.func47, Try.ntmps47
  go_wp2_with fail
  have s0 : Q w w := Q.refl _
  go_region_held3 (fun w' => Q w w') (repeat (first | assumption | apply Q.alloc | apply Q.drew | apply Q.drewN))
    (first
      | (go_at_call 67; refine (RT.out _ (by assumption)).mono ?_; rintro e w6 ⟨⟨ta, tn, tc⟩, rfl, q6, i6⟩; have k6 : Q w w6 := Q.trans (by assumption) q6; have I6 := hid i6; have Q6 := hid q6; clear q6 i6)
      | (go_at_call 34; refine (join_lit w6 [⟨some ⟨w.heap.size, 0, none⟩, 1, 1⟩, ⟨ta, tn, tc⟩, ⟨sa, 16, sc⟩] [[3], tx ks, ss.take 16] rfl (in3 ((in_lit1 w 3 (by omega) (by omega)).q (Q.trans ((Q.refl _).drew) Q6.out)) I6.out (ST.out.q k6)) (by show 3 ≤ 100; omega) HLN.out).mono ?_; rintro e w7 ⟨⟨ja, jn, jc⟩, rfl, q7, i7, r7, n7⟩; have k7 : Q w w7 := Q.trans k6 q7; have I7 := hid i7; clear q7 i7 r7 n7)
      | (go_at_call 34; refine (join_at (w6.alloc (.cells #[.int .u8 3] 5)) (w6.heap.size + 1) (by simp) [⟨some ⟨w6.heap.size, 0, none⟩, 1, 1⟩, ⟨ta, tn, tc⟩, ⟨sa, 16, sc⟩] [[3], tx ks, ss.take 16] rfl (in3 (in_lit1 w6 3 (by omega) (by omega)) (I6.out.q ((Q.refl _).alloc _)) ((ST.out.q k6).q ((Q.refl _).alloc _))) (by show 3 ≤ 100; omega) HLN.out).mono ?_; rintro e w7 ⟨⟨ja, jn, jc⟩, rfl, q7, i7, r7, n7⟩; have k7 : Q w w7 := Q.trans (k6.alloc _) q7; have I7 := hid i7; clear q7 i7 r7 n7)
      | (go_at_call 33; refine (rdigest_any ja jn jc _ _ I7.out.l (by have h1 := I7.out.l; have h2 := HLN.out; dsimp only at h1; omega) I7.out.z (I7.out.s.q (by repeat (first | exact Q.refl _ | apply Q.drewN | apply Q.drew)))).mono ?_; rintro e w8 ⟨g8, rfl, q8, r8, n8⟩; have k8 : Q w w8 := Q.trans (by assumption) q8; have R8 := hid r8; have NG8 := hid (Nat.le_trans (Q.size k7) n8); clear q8 r8 n8))
  all_goals (
    have K8 := hid k8
    have RR := hid (show In w8 ⟨some ⟨g8, 0, none⟩, 5, 16⟩ (mskL ks ss) from by
      have h := (Row.in_ R8.out (dg_lt _)).take 5 16 (by show 5 ≤ 16; omega)
      have e : ([[3], tx ks, ss.take 16] : List (List Int)).flatten = 3 :: (tx ks ++ ss.take 16) := by simp
      rw [e] at h
      exact h)
    clear k6 k7 k8 s0 Q6 I6 I7 R8
    go_wp2
    go_ret2
    exact ⟨g8, rfl, K8.out, RR.out, NG8.out⟩)
end Go.Proofs.Ytihmlfpfpadfpaa
