/-
  What the law's own awake answers: true, whatever stands in memory. A contract that the statements' walks use.
-/
import Derived.Test.YtmcemfjnenfcaaaAdd
namespace Go.Proofs.Ytmcemfjnenfcaaa
open Go.RowKit
set_option linter.unusedVariables false

theorem st_new {w w' : World} {most : Int} (h : Hd w' 54 w.heap.size most 0 none 0 0) : St w' w.heap.size none 0 0 most 0 [] := ⟨h, own_nil _ _, by simp [blk]⟩
theorem ok_new {most : Int} (h0 : 1 ≤ most) (h1 : most ≤ 64) : Ok most 0 [] := ⟨trivial, by omega, by omega, h0, h1, by simp; omega⟩

set_option maxHeartbeats 4000000 in
theorem awake_any (w : World) : Calls Try.prog 10 #[] w fun e w' => e = .returned (.bool true) ∧ Q w w' := by
  go_enter Try.func10, Try.ntmps10
  go_wp2_with fail
  refine (new_good 1 w (by omega) (by omega)).mono ?_
  rintro e w1 ⟨rfl, hd1, hq1, hs1⟩
  have S1 := hid (st_new hd1)
  have Q1 := hid hq1
  clear hd1 hq1
  generalize hrb : w.heap.size = rb at *
  have HRB := hid hrb
  clear hrb
  go_wp2_with fail
  refine (add_any rb none 0 0 1 0 [] 3 5 w1 S1.out (ok_new (by omega) (by omega))).mono ?_
  rintro e w2 ⟨rfl, ⟨a2, n2, c2, h2, hfr⟩, k2⟩
  have e1 : adN 0 3 5 [] = 3 := by decide
  have e2 : adE 3 5 = 0 := by decide
  have e3 : adF 1 0 3 5 [] = 0 := by decide
  have e4 : adL 1 0 3 5 [] = [(3, 5)] := by decide
  rw [e1, e2]
  rw [e3, e4] at h2
  obtain rfl : n2 = 1 := h2.len.symm
  have S2 := hid h2
  have Q2 := hid (show Q w w2 from ((Keep.ofQ (F := fun k => k = rb) Q1.out).trans (k2.mono (fun i _ e => by rcases e with e | e; exact e; simp [blk] at e))).toQ (fun i hi e => by have := HRB.out; omega))
  clear h2 k2 e1 e2 e3 e4 hfr
  go_wp2_with fail
  refine (has_any rb 1 0 a2 1 c2 [(3, 5)] w2 4 S2.out.hd S2.out.own.seg rfl (by omega)).mono ?_
  rintro e w3 ⟨rfl, hq3⟩
  have e5 : hadB 0 [(3, 5)] 4 = true := by decide
  rw [e5]
  have S3 := hid (S2.out.q hq3)
  have Q3 := hid (Q2.out.trans hq3)
  clear hq3 e5
  go_wp2_with fail
  refine (has_any rb 1 0 a2 1 c2 [(3, 5)] w3 6 S3.out.hd S3.out.own.seg rfl (by omega)).mono ?_
  rintro e w4 ⟨rfl, hq4⟩
  have e6 : hadB 0 [(3, 5)] 6 = false := by decide
  rw [e6]
  have S4 := hid (S3.out.q hq4)
  have Q4 := hid (Q3.out.trans hq4)
  clear hq4 e6
  go_wp2_with fail
  refine (list_any 0 rb 1 0 a2 1 c2 [(3, 5)] w4 S4.out.hd S4.out.own (by omega)).mono ?_
  rintro e w5 ⟨g5, a5, c5, rfl, ho5, hq5, ha5⟩
  have Q5 := hid (Q4.out.trans hq5)
  clear ho5 hq5 ha5
  go_wp2
  go_ret
  exact ⟨rfl, Q5.out⟩

end Go.Proofs.Ytmcemfjnenfcaaa
