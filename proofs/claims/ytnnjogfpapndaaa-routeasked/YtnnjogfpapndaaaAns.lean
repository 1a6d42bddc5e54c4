/-
  What route's sized, longHead, answer and slices.Equal do, and the statement's own asked: contracts that the statements' walks use.
-/
import Derived.Test.YtnnjogfpapndaaaPrf
import Derived.Test.YtnnjogfpapndaaaPar
import Derived.Test.YtnnjogfpapndaaaSame
namespace Go.Proofs.Ytnnjogfpapndaaa
open Go.RowKit
set_option linter.unusedVariables false
set_option maxRecDepth 20000

/-- Bytes behind their number. -/
def sdL (zs : List Int) : List Int := (zs.length : Int) :: zs
theorem sdL_len (zs : List Int) : (sdL zs).length = zs.length + 1 := rfl
theorem sdL_by {zs : List Int} (h : By zs) (hl : zs.length ≤ 20) : By (sdL zs) := by
  intro y hy
  rcases List.mem_cons.1 hy with rfl | hy
  · omega
  · exact h y hy
set_option maxHeartbeats 4000000 in
theorem sid_any (d : Sv) (zs : List Int) (w : World) (hd : In w d zs) (hn : d.n ≤ 20) :
    Calls Try.prog 91 #[.slice d.a d.n d.c] w fun e w' => ∃ x : Sv, e = .returned (.slice x.a x.n x.c) ∧ Q w w' ∧ In w' x (sdL zs) ∧ Row w' x (sdL zs) ∧ New w.heap.size x := by
  obtain ⟨da, n, dc⟩ := d
  have HD := hid hd
  have HL := hid (show zs.length = n from hd.l)
  dsimp only at hn
  clear hd
  dsimp only at *
  have hw8 : IntKind.u8.wrap (n : Int) = (n : Int) := by simp only [IntKind.wrap, IntKind.bits, IntKind.signed]; simp; omega
  have hn256 : (n : Int) < 256 := by omega
  have hn0 : (0 : Int) ≤ (n : Int) := by omega
  have HN := hid hn
  clear hn
  go_enter Try.func91, Try.ntmps91
  go_wp2_with fail
  have hs : (w.alloc (.cells #[.int .u8 (n : Int)] 5)).heap.size = w.heap.size + 1 := by simp
  have C := concat_two (w.alloc (.cells #[.int .u8 (n : Int)] 5)) ⟨some ⟨w.heap.size, 0, none⟩, 1, 1⟩ ⟨da, n, dc⟩ [(n : Int)] zs ⟨seg_litm w [(n : Int)] (0, 0), rfl, one_byte _ hn0 hn256⟩ (HD.out.q ((Q.refl w).alloc _)) (by have := HN.out; show 1 + n ≤ _; omega)
  rw [hs] at C
  refine C.mono ?_
  rintro e w1 ⟨⟨xa, xn, xc⟩, rfl, q, i, r, m⟩
  have e1 : [(n : Int)] ++ zs = sdL zs := by unfold sdL; rw [HL.out]; rfl
  rw [e1] at i r
  have HX := hid (show Q w w1 ∧ In w1 ⟨xa, xn, xc⟩ (sdL zs) ∧ Row w1 ⟨xa, xn, xc⟩ (sdL zs) ∧ New w.heap.size ⟨xa, xn, xc⟩ from ⟨((Q.refl w).alloc _).trans q, i, r, m.mono (by omega)⟩)
  clear C q i r m e1 hs
  go_wp2
  go_ret
  exact ⟨⟨xa, xn, xc⟩, rfl, HX.out⟩
/-- A long header up to its Src. -/
def lhL (f : Int) (ds ss : List Int) : List Int := [f, 0, 0, 0, 1] ++ (sdL ds ++ sdL ss)
theorem concat_four (w : World) (x y z u : Sv) (xs ys zs us : List Int) (hx : In w x xs) (hy : In w y ys) (hz : In w z zs) (hu : In w u us) (hb : x.n + y.n + z.n + u.n ≤ 1000000) :
    Calls Try.prog 35 #[.slice (some ⟨w.heap.size, 0, none⟩) 4 4] (w.alloc (.cells #[.slice x.a x.n x.c, .slice y.a y.n y.c, .slice z.a z.n z.c, .slice u.a u.n u.c] 22)) fun e w' => ∃ v : Sv, e = .returned (.slice v.a v.n v.c) ∧ Q w w' ∧ In w' v (xs ++ (ys ++ (zs ++ us))) ∧ Row w' v (xs ++ (ys ++ (zs ++ us))) ∧ New w.heap.size v := by
  have h := concat_lit w [x, y, z, u] [xs, ys, zs, us] rfl (fun j hj => by
    rcases (show j = 0 ∨ j = 1 ∨ j = 2 ∨ j = 3 by simp at hj; omega) with rfl | rfl | rfl | rfl
    · exact hx
    · exact hy
    · exact hz
    · exact hu) (by simp) (by have := hx.l; have := hy.l; have := hz.l; have := hu.l; simp; omega)
  rw [show [xs, ys, zs, us].flatten = xs ++ (ys ++ (zs ++ us)) from by simp] at h
  exact h
set_option maxHeartbeats 4000000 in
theorem longHead_any (f : Int) (f0 : 0 ≤ f) (f1 : f < 256) (d s : Sv) (ds ss : List Int) (w : World) (hd : In w d ds) (hs : In w s ss) (hn : d.n ≤ 20) (hm : s.n ≤ 20) :
    Calls Try.prog 81 #[.int .u8 f, .int .u64 1, .slice d.a d.n d.c, .slice s.a s.n s.c] w fun e w' => ∃ x : Sv, e = .returned (.slice x.a x.n x.c) ∧ Q w w' ∧ In w' x (lhL f ds ss) ∧ Row w' x (lhL f ds ss) ∧ New w.heap.size x := by
  obtain ⟨da, dn, dc⟩ := d
  obtain ⟨sa, sn, sc⟩ := s
  have HD := hid hd
  have HS := hid hs
  have HLD := hid (show ds.length = dn from hd.l)
  have HLS := hid (show ss.length = sn from hs.l)
  dsimp only at hn hm
  have HN := hid hn
  have HM := hid hm
  clear hd hs hn hm
  dsimp only at *
  go_enter Try.func81, Try.ntmps81
  go_wp2_with fail
  generalize hw1 : World.alloc w _ = w1
  have Q1 := hid (show Q w w1 from by rw [← hw1]; exact (Q.refl w).alloc _)
  have F1 := hid (show In w1 ⟨some ⟨w.heap.size, 0, none⟩, 1, 1⟩ [f] from by rw [← hw1]; exact ⟨seg_litm w [f] (0, 0), rfl, one_byte _ f0 f1⟩)
  clear hw1
  generalize w.heap.size = fb at *
  refine (laid_any 4 (.inl rfl) 1 (by omega) (by omega) w1).mono ?_
  rintro e w2 ⟨⟨va, vn, vc⟩, rfl, q, r, n⟩
  have Q2 := hid (Q1.out.trans q)
  have F2 := hid (F1.out.q q)
  have V2 := hid (row_in r (be_bound 4 1))
  have hvn : vn = 4 := by have := Row.len r; rw [be_length] at this; exact this.symm
  subst hvn
  clear q r n Q1 F1
  go_wp2_with fail
  refine (sid_any ⟨da, dn, dc⟩ ds w2 (HD.out.q Q2.out) HN.out).mono ?_
  rintro e w3 ⟨⟨xa, xn, xc⟩, rfl, q, i, r, n⟩
  have Q3 := hid (Q2.out.trans q)
  have F3 := hid (F2.out.q q)
  have V3 := hid (V2.out.q q)
  have X3 := hid i
  have hxn : Hid (xn ≤ 21) := by have h := i.l; rw [sdL_len, HLD.out] at h; dsimp only at h; have := HN.out; exact hid (by omega)
  clear q i r n Q2 F2 V2
  go_wp2_with fail
  refine (sid_any ⟨sa, sn, sc⟩ ss w3 (HS.out.q Q3.out) HM.out).mono ?_
  rintro e w4 ⟨⟨ya, yn, yc⟩, rfl, q, i, r, n⟩
  have Q4 := hid (Q3.out.trans q)
  have F4 := hid (F3.out.q q)
  have V4 := hid (V3.out.q q)
  have X4 := hid (X3.out.q q)
  have Y4 := hid i
  have hyn : Hid (yn ≤ 21) := by have h := i.l; rw [sdL_len, HLS.out] at h; dsimp only at h; have := HM.out; exact hid (by omega)
  clear q i r n Q3 F3 V3 X3
  go_wp2_with fail
  refine (concat_four w4 ⟨some ⟨fb, 0, none⟩, 1, 1⟩ ⟨va, 4, vc⟩ ⟨xa, xn, xc⟩ ⟨ya, yn, yc⟩ [f] (be 4 1) (sdL ds) (sdL ss) F4.out V4.out X4.out Y4.out (by have := hxn.out; have := hyn.out; show 1 + 4 + xn + yn ≤ _; omega)).mono ?_
  rintro e w5 ⟨⟨za, zn, zc⟩, rfl, q, i, r, n⟩
  have e1 : [f] ++ (be 4 1 ++ (sdL ds ++ sdL ss)) = lhL f ds ss := rfl
  rw [e1] at i r
  have HX := hid (show Q w w5 ∧ In w5 ⟨za, zn, zc⟩ (lhL f ds ss) ∧ Row w5 ⟨za, zn, zc⟩ (lhL f ds ss) ∧ New w.heap.size ⟨za, zn, zc⟩ from ⟨Q4.out.trans q, i, r, n.mono Q4.out.size⟩)
  clear q i r n e1
  go_wp2
  go_ret
  exact ⟨⟨za, zn, zc⟩, rfl, HX.out⟩
end Go.Proofs.Ytnnjogfpapndaaa
