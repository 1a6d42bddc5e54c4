/-
  What the document's own Mask does: a contract that the statements' walks use.
-/
import Derived.Test.YtihmlfpfpadfpaaRTxt
namespace Go.Proofs.Ytihmlfpfpadfpaa
open Go.RowKit
set_option linter.unusedVariables false
set_option maxRecDepth 20000

/-- What Mask refuses, and what it makes. -/
def mskE (kl sl : Nat) : Int := if 255 < kl then 70 else if sl < 16 then 12 else 0
def mskL (ks ss : List Int) : List Int := (dg (3 :: (tx ks ++ ss.take 16))).take 5
def mskR (ks ss : List Int) : List Int := if mskE ks.length ss.length = 0 then mskL ks ss else List.replicate 5 0
theorem In.take {w : World} {x : Sv} {zs : List Int} (h : In w x zs) (k c : Nat) (hk : k ≤ x.n) : In w ⟨x.a, k, c⟩ (zs.take k) :=
  ⟨seg_take h.s k, by have := h.l; simp; omega, fun y hy => h.z y (List.mem_of_mem_take hy)⟩
theorem mk5 (w : World) : (Instr.makeSlice 22 (.int .i64 5) (.int .i64 5)).run Try.prog w = .ok (.slice (some ⟨w.heap.size, 0, none⟩) 5 5) (w.alloc (.cells (u8s (List.replicate 5 0)).toArray 5)) := by kernel_rfl
theorem rep_lt (n : Nat) : ∀ y ∈ List.replicate n (0 : Int), 0 ≤ y ∧ y < 256 := by
  intro y hy
  rw [List.eq_of_mem_replicate hy]; omega
theorem in3 {w : World} {x0 x1 x2 : Sv} {z0 z1 z2 : List Int} (h0 : In w x0 z0) (h1 : In w x1 z1) (h2 : In w x2 z2) : ∀ j, j < [x0, x1, x2].length → In w ([x0, x1, x2].getD j nilS) ([z0, z1, z2].getD j []) := by
  intro j hj
  rcases (show j = 0 ∨ j = 1 ∨ j = 2 by simp at hj; omega) with rfl | rfl | rfl
  · exact h0
  · exact h1
  · exact h2
theorem join_at (w : World) (pb : Nat) (hpb : pb = w.heap.size) (xs : List Sv) (zss : List (List Int)) (hl : zss.length = xs.length) (h : ∀ j, j < xs.length → In w (xs.getD j nilS) (zss.getD j [])) (hm : xs.length ≤ 100) (ht : zss.flatten.length ≤ 1000000) :
    Calls Try.prog 34 #[.slice (some ⟨pb, 0, none⟩) xs.length xs.length] (w.alloc (.cells (pcs xs) 22)) fun e w' => ∃ x : Sv, e = .returned (.slice x.a x.n x.c) ∧ Q w w' ∧ In w' x zss.flatten ∧ Row w' x zss.flatten ∧ New w.heap.size x := by
  subst hpb
  exact join_lit w xs zss hl h hm ht
theorem in_lit1 (w : World) (x : Int) (h0 : 0 ≤ x) (h1 : x < 256) : In (w.alloc (.cells #[.int .u8 x] 5)) ⟨some ⟨w.heap.size, 0, none⟩, 1, 1⟩ [x] := ⟨seg_lit1 w x, rfl, one_byte x h0 h1⟩
set_option maxHeartbeats 4000000 in
theorem rmask_any (k s : Sv) (ks ss : List Int) (w : World) (hk : In w k ks) (hs : In w s ss) (bk : k.n ≤ 140737488355328) (bs : s.n ≤ 140737488355328) (cs : s.n ≤ s.c) :
    Calls Try.prog 47 #[.slice k.a k.n k.c, .slice s.a s.n s.c] w fun e w' => ∃ (x : Sv), e = .returned (.tuple #[.slice x.a x.n x.c, .int .i64 (mskE k.n s.n)]) ∧ Q w w' ∧ In w' x (mskR ks ss) := by
  have HK := hid hk
  have HS := hid hs
  have HR := hid (show mskR ks ss = if mskE k.n s.n = 0 then mskL ks ss else List.replicate 5 0 from by unfold mskR; rw [hk.l, hs.l])
  clear hk hs
  obtain ⟨ka, kn, kc⟩ := k
  obtain ⟨sa, sn, sc⟩ := s
  dsimp only at *
  by_cases h1 : (255 : Int) < (kn : Int)
  · have HE := hid (show mskE kn sn = 70 from by unfold mskE; rw [if_pos (by omega)])
    rw [HE.out] at HR
    rw [HE.out, HR.out, if_neg (by decide)]
    have mk := mk5 w
    go_enter Try.func47, Try.ntmps47
    go_wp2
    go_ret2
    exact ⟨⟨some ⟨w.heap.size, 0, none⟩, 5, 5⟩, rfl, (Q.refl w).alloc _, seg_lit w (List.replicate 5 0), rfl, rep_lt 5⟩
  by_cases h2 : (sn : Int) < 16
  · have HE := hid (show mskE kn sn = 12 from by unfold mskE; rw [if_neg (by omega), if_pos (by omega)])
    rw [HE.out] at HR
    rw [HE.out, HR.out, if_neg (by decide)]
    have mk := mk5 w
    go_enter Try.func47, Try.ntmps47
    go_wp2
    go_ret2
    exact ⟨⟨some ⟨w.heap.size, 0, none⟩, 5, 5⟩, rfl, (Q.refl w).alloc _, seg_lit w (List.replicate 5 0), rfl, rep_lt 5⟩
  have HE := hid (show mskE kn sn = 0 from by unfold mskE; rw [if_neg (by omega), if_neg (by omega)])
  rw [HE.out] at HR
  rw [HE.out, HR.out, if_pos rfl]
  have hsn : (16 : Int) ≤ (sn : Int) := by omega
  have hsc : (16 : Int) ≤ (sc : Int) := by omega
  have hkn : kn ≤ 255 := by omega
  have RT := hid (fun u (hu : Q w u) => rtext_any ⟨ka, kn, kc⟩ ks u (HK.out.q hu) (by show kn ≤ _; omega))
  have ST := hid (HS.out.take 16 sc (by show 16 ≤ sn; omega))
  have HLN := hid (show ([[3], tx ks, ss.take 16] : List (List Int)).flatten.length ≤ 1000000 from by
    have h1 : ks.length = kn := HK.out.l
    have h2 : (ss.take 16).length ≤ 16 := List.length_take_le 16 ss
    simp [tx, h1]; simp at h2; omega)
  go_enter Try.func47, Try.ntmps47
  go_wp2_with fail
  have s0 : Q w w := Q.refl _
  go_region_held3 (fun w' => Q w w') (repeat (first | assumption | apply Q.alloc | apply Q.drew | apply Q.drewN))
    (first
      | (go_at_call 67; refine (RT.out _ (by assumption)).mono ?_; rintro e w6 ⟨⟨ta, tn, tc⟩, rfl, q6, i6⟩; have k6 : Q w w6 := Q.trans (by assumption) q6; have I6 := hid i6; have Q6 := hid q6; clear q6 i6)
      | (go_at_call 34; refine (join_lit w6 [⟨some ⟨w.heap.size, 0, none⟩, 1, 1⟩, ⟨ta, tn, tc⟩, ⟨sa, 16, sc⟩] [[3], tx ks, ss.take 16] rfl (in3 ((in_lit1 w 3 (by omega) (by omega)).q (Q.trans ((Q.refl _).drew) Q6.out)) I6.out (ST.out.q k6)) (by show 3 ≤ 100; omega) HLN.out).mono ?_; rintro e w7 ⟨⟨ja, jn, jc⟩, rfl, q7, i7, r7, n7⟩; have k7 : Q w w7 := Q.trans k6 q7; have I7 := hid i7; clear q7 i7 r7 n7)
      | (go_at_call 34; refine (join_at (w6.alloc (.cells #[.int .u8 3] 5)) (w6.heap.size + 1) (by simp) [⟨some ⟨w6.heap.size, 0, none⟩, 1, 1⟩, ⟨ta, tn, tc⟩, ⟨sa, 16, sc⟩] [[3], tx ks, ss.take 16] rfl (in3 (in_lit1 w6 3 (by omega) (by omega)) (I6.out.q ((Q.refl _).alloc _)) ((ST.out.q k6).q ((Q.refl _).alloc _))) (by show 3 ≤ 100; omega) HLN.out).mono ?_; rintro e w7 ⟨⟨ja, jn, jc⟩, rfl, q7, i7, r7, n7⟩; have k7 : Q w w7 := Q.trans (k6.alloc _) q7; have I7 := hid i7; clear q7 i7 r7 n7)
      | (go_at_call 33; refine (rdigest_any ja jn jc _ _ I7.out.l (by have h1 := I7.out.l; have h2 := HLN.out; dsimp only at h1; omega) I7.out.z (I7.out.s.q (by repeat (first | exact Q.refl _ | apply Q.drewN | apply Q.drew)))).mono ?_; rintro e w8 ⟨g8, rfl, q8, r8, n8⟩; have k8 : Q w w8 := Q.trans (by assumption) q8; have R8 := hid r8; clear q8 r8 n8))
  all_goals (
    have K8 := hid k8
    have RR := hid (show In w8 ⟨some ⟨g8, 0, none⟩, 5, 16⟩ (mskL ks ss) from by
      have h := (Row.in_ R8.out (dg_lt _)).take 5 16 (by show 5 ≤ 16; omega)
      have e : ([[3], tx ks, ss.take 16] : List (List Int)).flatten = 3 :: (tx ks ++ ss.take 16) := by simp
      rw [e] at h
      exact h)
    clear k6 k7 k8 s0 Q6 I6 I7 R8
    go_wp2
    go_ret2
    exact ⟨⟨some ⟨g8, 0, none⟩, 5, 16⟩, rfl, K8.out, RR.out⟩)
end Go.Proofs.Ytihmlfpfpadfpaa
